"""Screens, and the clashes that show that no text fits them."""

from wrapclues.checks import is_tagged, is_whole_between
from wrapclues.errors import InvalidScreens
from wrapclues.texts import MOST_WIDTH, count_characters, is_text, is_width, spans_of, wrap_text

ROOM = "room"
LONG = "long"
BESIDE = "beside"


def is_screen(value):
    """True if the value is a screen."""
    if not isinstance(value, tuple) or len(value) != 2:
        return False
    # The lengths of lines have the same bounds as the lengths of words.
    return is_width(value[0]) and is_text(value[1])


def are_screens(value):
    """True if the value is a list of screens with one number of characters."""
    if not isinstance(value, list) or not value:
        return False
    if not all([is_screen(entry) for entry in value]):
        return False
    characters = characters_of(value)
    return all([count_characters(lengths) == characters for _, lengths in value])


def screen_of(text, width):
    """The screen that the text shows at the width."""
    lengths = wrap_text(text, width)
    return (width, lengths)


def find_clash(screens):
    """A clash of the screens, or None if there is none."""
    require_screens(screens)
    characters = characters_of(screens)
    nearest = nearest_ends(screens)
    for (at, line), width, span in numbered_lines(screens):
        for kind, low, high in banned_ends(width, span, characters):
            end, other, other_line = nearest[low]
            if end <= high:
                return (kind, at, line, other, other_line)
    return None


def is_clash(screens, value):
    """True if the value is a clash of the screens."""
    require_screens(screens)
    if not is_tagged(value, 5):
        return False
    kind, at, line, other, other_line = value
    if not is_line(screens, at, line) or not is_line(screens, other, other_line):
        return False
    width, span = line_of(screens, at, line)
    _, other_span = line_of(screens, other, other_line)
    end = other_span[1]
    bans = banned_ends(width, span, characters_of(screens))
    return any([kind == banned and low <= end <= high for banned, low, high in bans])


def require_screens(screens):
    """Raises InvalidScreens if the value is not screens."""
    if not are_screens(screens):
        raise InvalidScreens("screens are a list of screens with one number of characters")


def characters_of(screens):
    """The number of characters of screens that have been checked."""
    _, lengths = screens[0]
    return count_characters(lengths)


def screens_of_all(characters):
    """Screens that all texts with this number of characters fit."""
    # At the greatest width each of these texts is a single line.
    return [(MOST_WIDTH, [characters])]


def is_line(screens, at, line):
    """True if `at` is the number of a screen and `line` that of a line of it."""
    if not is_whole_between(at, 0, len(screens) - 1):
        return False
    return is_whole_between(line, 0, len(screens[at][1]) - 1)


def line_of(screens, at, line):
    """The tuple (width, (start, end)) of a line of the screens."""
    width, lengths = screens[at]
    return (width, spans_of(lengths)[line])


def numbered_lines(screens):
    """The tuples ((screen, line), width, (start, end)) of all lines of the screens."""
    return [((at, line), width, span) for at, (width, lengths) in enumerate(screens)
            for line, span in enumerate(spans_of(lengths))]


def is_long(width, span):
    """True if the line is longer than the width."""
    start, end = span
    return end - start > width


def banned_ends(width, span, characters):
    """The tuples (kind, low, high) of the positions from low to high at which, because of
    this line, no line of any screen ends; low is at most the number of characters."""
    start, end = span
    if is_long(width, span):
        bans = [(LONG, start + 1, end - 1)]
    elif end < characters:
        bans = [(ROOM, end + 1, start + width)]
    else:
        bans = []
    if end < characters:
        bans.append((BESIDE, end + 1, end + 1))
    return bans


def nearest_ends(screens):
    """For each position, up to the number of characters, the tuple (end, screen, line) of
    a line that ends there or, if none does, at the next end behind it."""
    characters = characters_of(screens)
    nearest = [None] * (characters + 1)
    for (at, line), _, span in numbered_lines(screens):
        end = span[1]
        if nearest[end] is None:
            nearest[end] = (end, at, line)
    for position in reversed(range(characters)):
        if nearest[position] is None:
            nearest[position] = nearest[position + 1]
    return nearest
