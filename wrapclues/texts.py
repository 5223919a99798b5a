"""Texts as lists of the lengths of their words, and how they are wrapped."""

from wrapclues.checks import are_wholes, is_whole, is_whole_between
from wrapclues.errors import InvalidNumber, InvalidText, InvalidWidth

MOST_CHARACTERS = 600
MOST_WIDTH = 1000


def is_text(value):
    """True if the value is a text."""
    if not are_wholes(value) or not value or min(value) < 1:
        return False
    return count_characters(value) <= MOST_CHARACTERS


def character_count(text):
    """The number of characters of the text."""
    require_text(text)
    return count_characters(text)


def spaces_of(text):
    """The ascending list of the positions of the spaces."""
    require_text(text)
    return [end for _, end in spans_of(text)[:-1]]


def text_of(characters, spaces):
    """The text with this number of characters and with exactly these spaces."""
    if not is_whole(characters) or not are_wholes(spaces):
        raise InvalidText("the number of characters and the spaces must be integers")
    text = []
    start = 0
    for stop in sorted(spaces) + [characters]:
        # Spaces that are outside, side by side or given twice leave a length below 1.
        text.append(stop - start)
        start = stop + 1
    require_text(text)
    return text


def wrap_text(text, width):
    """The lengths of the lines of the text at the width."""
    require_text(text)
    require_width(width)
    return [end - start for start, end in wrapped_spans(text, width)]


def line_starts(text, width):
    """The starts of the lines of the text at the width."""
    require_text(text)
    require_width(width)
    return [start for start, _ in wrapped_spans(text, width)]


def least_width(text, lines):
    """The least width at which the text has at most this number of lines."""
    require_text(text)
    if not is_whole(lines) or lines < 1:
        raise InvalidNumber("the number of lines must be an integer from 1 on")
    low = 1
    high = count_characters(text)
    # A greater width never gives more lines, so that halving finds the least one.
    while low < high:
        middle = (low + high) // 2
        if len(wrapped_spans(text, middle)) <= lines:
            high = middle
        else:
            low = middle + 1
    return low


def words_of(string):
    """The lengths of the words of the string."""
    require_string(string)
    return [len(word) for word in string.split(" ")]


def wrap_string(string, width):
    """The lines of the string at the width."""
    text = words_of(string)
    require_width(width)
    return [string[start:end] for start, end in wrapped_spans(text, width)]


def is_width(value):
    """True if the value is a width."""
    return is_whole_between(value, 1, MOST_WIDTH)


def require_text(text):
    """Raises InvalidText if the value is not a text."""
    if not is_text(text):
        raise InvalidText("a text is a list of lengths with at most 600 characters")


def require_width(width):
    """Raises InvalidWidth if the value is not a width."""
    if not is_width(width):
        raise InvalidWidth("a width is an integer from 1 to 1000")


def require_string(string):
    """Raises InvalidText if the value is not a string that has a text."""
    if not isinstance(string, str) or len(string) > MOST_CHARACTERS:
        raise InvalidText("a string of at most 600 characters is required")
    if not all([" " <= sign <= "~" for sign in string]):
        raise InvalidText("a string has characters from the space to the tilde")
    # A part is empty at a space at either end, beside another space, and in no words at all.
    if "" in string.split(" "):
        raise InvalidText("a string is words with single spaces between them")


def count_characters(lengths):
    """The number of characters of lengths that have been checked."""
    return sum(lengths) + len(lengths) - 1


def spans_of(lengths):
    """The tuples (start, end) of parts with these lengths, with one position between two."""
    spans = []
    start = 0
    for length in lengths:
        spans.append((start, start + length))
        start = start + length + 1
    return spans


def wrapped_spans(text, width):
    """The tuples (start, end) of the lines of the text at the width, both checked before."""
    spans = []
    start = 0
    end = text[0]
    for length in text[1:]:
        stop = end + 1 + length
        if stop > start + width:
            spans.append((start, end))
            start = end + 1
        end = stop
    spans.append((start, end))
    return spans
