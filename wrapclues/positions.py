"""What screens tell of each position of the texts that fit them, and why."""

from wrapclues.checks import is_tagged, is_whole_between
from wrapclues.clashes import BESIDE, LONG, ROOM, characters_of, find_clash
from wrapclues.clashes import is_line, is_long, line_of, numbered_lines
from wrapclues.errors import InvalidPosition, ScreensClash

BREAK = "break"
FIRST = "first"


def pattern_of(screens):
    """One character for each position: a space, a letter, or free."""
    require_no_clash(screens)
    characters = characters_of(screens)
    marks = ["?"] * characters
    marks[0] = "x"
    for _, width, span in numbered_lines(screens):
        for kind, low, high in told_spans(width, span, characters):
            mark = "_" if kind == BREAK else "x"
            for position in range(low, min(high + 1, characters)):
                marks[position] = mark
    return "".join(marks)


def reason_for(screens, position):
    """A reason for the position, or None if it is free."""
    require_no_clash(screens)
    require_position(screens, position)
    if position == 0:
        return (FIRST,)
    characters = characters_of(screens)
    for (at, line), width, span in numbered_lines(screens):
        for kind, low, high in told_spans(width, span, characters):
            if low <= position <= high:
                return (kind, at, line)
    return None


def is_reason(screens, position, value):
    """True if the value is a reason for the position."""
    require_no_clash(screens)
    require_position(screens, position)
    if is_tagged(value, 1):
        return value[0] == FIRST and position == 0
    if not is_tagged(value, 3):
        return False
    kind, at, line = value
    if not is_line(screens, at, line):
        return False
    width, span = line_of(screens, at, line)
    told = told_spans(width, span, characters_of(screens))
    return any([kind == name and low <= position <= high for name, low, high in told])


def require_no_clash(screens):
    """Raises InvalidScreens if the value is not screens, ScreensClash if they have a clash."""
    clash = find_clash(screens)
    if clash is not None:
        raise ScreensClash(clash)


def require_position(screens, position):
    """Raises InvalidPosition if the value is not a position of the screens."""
    if not is_whole_between(position, 0, characters_of(screens) - 1):
        raise InvalidPosition("a position is an integer from 0 to the number of characters less 1")


def told_spans(width, span, characters):
    """The tuples (kind, low, high) of the positions from low to high for which the line is
    a reason; some of them may be behind the last position."""
    start, end = span
    told = [(BREAK, end, end), (BESIDE, end - 1, end - 1), (BESIDE, end + 1, end + 1)]
    if is_long(width, span):
        told.append((LONG, start, end - 1))
    elif end < characters:
        told.append((ROOM, end + 1, start + width))
    return told
