"""Texts and screens as strings, written and read."""

from wrapclues.clashes import are_screens, characters_of, require_screens
from wrapclues.errors import ParseError
from wrapclues.texts import count_characters, is_text, is_width, require_text

MOST_DIGITS = 160
DIGITS = "0123456789"


def format_text(text):
    """The notation of the text."""
    require_text(text)
    return joined(text)


def format_screens(screens):
    """The notation of the screens."""
    require_screens(screens)
    return "; ".join([f"{width}: {joined(lengths)}" for width, lengths in screens])


def parse_text(string):
    """The text with this notation."""
    text = []
    for index, word in enumerate(words_in(string)):
        text.append(whole_of(word))
        # What a text begins with is a text, too, so that a right beginning is complete.
        if not is_text(text):
            raise ParseError(index)
    return text


def parse_screens(string):
    """The screens with this notation."""
    return read_screens(words_in(string), True)


def parse_screen(string):
    """The screen with this notation, which is that of one screen."""
    return read_screens(words_in(string), False)[0]


def whole_of(word):
    """The integer with this notation, or None if there is none or it has too many digits."""
    # Python itself reads signs, blanks and leading zeros, too, but not any number of digits.
    if not 1 <= len(word) <= MOST_DIGITS or not all([sign in DIGITS for sign in word]):
        return None
    if word[0] == "0" and word != "0":
        return None
    return int(word)


def joined(lengths):
    """The lengths, separated by single spaces."""
    return " ".join([str(length) for length in lengths])


def words_in(string):
    """The parts between single spaces; raises ParseError if the value is not a string."""
    if not isinstance(string, str):
        raise ParseError()
    return string.split(" ")


def read_screens(words, several):
    """The screens that are written in these words; only if there may be several of them, a
    semicolon can end a screen."""
    screens = []
    ended = True
    for index, word in enumerate(words):
        if ended:
            ended = False
            screens.append((whole_before(word, ":"), []))
            right = is_width(screens[-1][0])
        else:
            ended = several and word.endswith(";")
            screens[-1][1].append(whole_before(word, ";" if ended else ""))
            right = are_beginning(screens, ended)
        if not right:
            raise ParseError(index)
    if ended or not are_screens(screens):
        # All words are right, but others have to follow.
        raise ParseError(len(words))
    return screens


def whole_before(word, mark):
    """The integer that stands in the word before the mark, with which it ends, or None."""
    if not word.endswith(mark):
        return None
    return whole_of(word[:len(word) - len(mark)])


def are_beginning(screens, ended):
    """True if some screens begin with these ones, the last one of which is continued if it
    has not ended; all before the last length has been checked."""
    lengths = screens[-1][1]
    if not is_text(lengths):
        return False
    if len(screens) == 1:
        return True
    # A further line takes a space and a letter at least.
    missing = characters_of(screens) - count_characters(lengths)
    return missing == 0 or (missing >= 2 and not ended)
