"""Albums: screens that are added and removed one by one, with the way back."""

from wrapclues.checks import is_whole_between
from wrapclues.clashes import find_clash, is_screen, screens_of_all
from wrapclues.errors import InvalidIndex, InvalidLengths, InvalidNumber, NothingToUndo
from wrapclues.fitting import count_texts
from wrapclues.positions import pattern_of, require_no_clash
from wrapclues.texts import MOST_CHARACTERS, count_characters, require_width


class Album:
    """Screens with one number of characters that some text fits."""

    def __init__(self, characters):
        if not is_whole_between(characters, 1, MOST_CHARACTERS):
            raise InvalidNumber("a number of characters is an integer from 1 to 600")
        self.characters = characters
        self.screens = []
        # The tuples (index, screen) of all removals and, with None as the index, additions.
        self.changes = []

    def add_screen(self, width, lengths):
        """Adds a screen at the end."""
        screen = self.checked_screen(width, lengths)
        require_no_clash(self.screens + [screen])
        self.screens.append(screen)
        self.changes.append((None, screen))

    def remove_screen(self, index):
        """Removes the screen with this index."""
        if not is_whole_between(index, 0, len(self.screens) - 1):
            raise InvalidIndex("the album has no screen with this index")
        self.changes.append((index, self.screens[index]))
        del self.screens[index]

    def undo(self):
        """Reverts the last addition or removal."""
        if not self.changes:
            raise NothingToUndo("nothing has been added or removed")
        index, screen = self.changes.pop()
        if index is None:
            self.screens.pop()
        else:
            self.screens.insert(index, screen)

    def all_screens(self):
        """The list of the screens."""
        return [(width, list(lengths)) for width, lengths in self.screens]

    def pattern(self):
        """One character for each position of the texts that fit."""
        return pattern_of(self.known_screens())

    def texts_left(self):
        """The number of the texts that fit."""
        return count_texts(self.known_screens())

    def texts_with(self, width, lengths):
        """The number of the texts that fit and show this screen."""
        screens = self.screens + [self.checked_screen(width, lengths)]
        if find_clash(screens) is not None:
            return 0
        return count_texts(screens)

    def log(self):
        """The list of the operations."""
        return [operation_of(index, screen) for index, screen in self.changes]

    def clone(self):
        """An independent album with the same screens and log."""
        album = Album(self.characters)
        album.screens = list(self.screens)
        album.changes = list(self.changes)
        return album

    def __len__(self):
        return len(self.screens)

    def __eq__(self, other):
        if not isinstance(other, Album):
            return False
        # The pattern determines which texts fit, and the texts determine the pattern.
        return self.pattern() == other.pattern()

    def known_screens(self):
        """Screens that exactly the texts fit that fit the album; an album may have none."""
        if not self.screens:
            return screens_of_all(self.characters)
        return self.screens

    def checked_screen(self, width, lengths):
        """The screen with its own list of lengths, if the album can have such a screen."""
        require_width(width)
        if not is_screen((width, lengths)) or count_characters(lengths) != self.characters:
            raise InvalidLengths("this is not a screen with the characters of the album")
        return (width, list(lengths))


def operation_of(index, screen):
    """The operation that the log has for a change."""
    if index is None:
        width, lengths = screen
        return ("add_screen", width, list(lengths))
    return ("remove_screen", index)
