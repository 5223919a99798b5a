"""The errors that the functions of the package raise."""


class WrapCluesError(ValueError):
    """The base class of all errors of the package."""


class InvalidText(WrapCluesError):
    """A value is not a text, or not a string that has a text."""


class InvalidWidth(WrapCluesError):
    """A value is not a width."""


class InvalidNumber(WrapCluesError):
    """A value is not a number that the function takes."""


class InvalidScreens(WrapCluesError):
    """A value is not a list of screens with one number of characters."""


class ScreensClash(WrapCluesError):
    """No text fits the screens; `clash` tells two lines that show it."""

    def __init__(self, clash):
        super().__init__("no text fits the screens")
        self.clash = clash


class InvalidPosition(WrapCluesError):
    """A value is not a position of the screens."""


class NotFitting(WrapCluesError):
    """A text or a wrap does not fit the screens."""


class InvalidLengths(WrapCluesError):
    """A value is not a list of lengths that the function takes."""


class InvalidRange(WrapCluesError):
    """Two values are not a range of widths."""


class InvalidIndex(WrapCluesError):
    """A value is not the index of an entry."""


class NothingToUndo(WrapCluesError):
    """There is no operation that could be reverted."""


class ParseError(WrapCluesError):
    """A value is not a notation; `index` is that of the first wrong word."""

    def __init__(self, index=None):
        super().__init__("this is not a notation")
        self.index = index


class InvalidCommand(WrapCluesError):
    """A value is not a command."""


class NoScreens(WrapCluesError):
    """There are no screens yet."""
