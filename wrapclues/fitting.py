"""The texts that fit screens: which they are, how many there are, and the number of each."""

from wrapclues.checks import is_whole_between
from wrapclues.clashes import require_screens
from wrapclues.errors import InvalidNumber, NotFitting
from wrapclues.positions import pattern_of
from wrapclues.texts import require_text, spaces_of, text_of, wrap_text


def fits(screens, text):
    """True if the text fits the screens."""
    require_screens(screens)
    require_text(text)
    return shows_all(screens, text)


def count_texts(screens):
    """The number of fitting texts."""
    return ways_from(pattern_of(screens))[0]


def nth_text(screens, number):
    """The fitting text with this number, in ascending order."""
    pattern = pattern_of(screens)
    ways = ways_from(pattern)
    if not is_whole_between(number, 0, ways[0] - 1):
        raise InvalidNumber("no fitting text has this number")
    return text_of(len(pattern), nth_spaces(pattern, ways, number))


def text_index(screens, text):
    """The number of a fitting text."""
    pattern = pattern_of(screens)
    require_text(text)
    if not shows_all(screens, text):
        raise NotFitting("the text does not fit the screens")
    ways = ways_from(pattern)
    spaces = set(spaces_of(text))
    index = 0
    for position, mark in enumerate(pattern):
        if mark == "?" and position not in spaces and position - 1 not in spaces:
            # The texts that begin alike but have a space here have a shorter word: they are less.
            index += ways[position + 2]
    return index


def shows_all(screens, text):
    """True if the text shows all of the screens, which have been checked, as the text has."""
    # A text with another number of characters has another wrap at every width.
    return all([wrap_text(text, width) == lengths for width, lengths in screens])


def ways_from(pattern):
    """For each position, and behind the last one, in how many ways the free positions from
    there on can be filled if there is no space at the position before."""
    ways = [1] * (len(pattern) + 1)
    for position in reversed(range(len(pattern))):
        ways[position] = ways[position + 1]
        if pattern[position] == "?":
            # Behind a free position there is always another one, which is not certainly a space.
            ways[position] += ways[position + 2]
    return ways


def nth_spaces(pattern, ways, number):
    """The spaces of the text with this number among those that the pattern allows."""
    spaces = []
    left = number
    position = 0
    while position < len(pattern):
        mark = pattern[position]
        if mark == "?" and left >= ways[position + 2]:
            left -= ways[position + 2]
        elif mark != "x":
            spaces.append(position)
            position += 1
        position += 1
    return spaces
