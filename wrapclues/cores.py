"""The part of a text that is visible at the widths of a range."""

from wrapclues.clashes import screen_of
from wrapclues.errors import InvalidRange
from wrapclues.fitting import count_texts
from wrapclues.texts import count_characters, is_width, require_text, text_of, wrap_text, wrapped_spans


def visible_spaces(text, low, high):
    """The spaces at which a line ends at some width of the range."""
    require_text(text)
    require_range(low, high)
    # At a width of all characters, and beyond, there is a single line.
    widths = range(low, min(high, count_characters(text)) + 1)
    return sorted(set([end for width in widths for _, end in wrapped_spans(text, width)[:-1]]))


def core_of(text, low, high):
    """The text with only the visible spaces."""
    spaces = visible_spaces(text, low, high)
    return text_of(count_characters(text), spaces)


def are_alike(text, other, low, high):
    """True if both texts have the same wrap at every width of the range."""
    return separating_width(text, other, low, high) is None


def separating_width(text, other, low, high):
    """The least width of the range at which the texts have different wraps, or None."""
    require_text(text)
    require_text(other)
    require_range(low, high)
    for width in range(low, high + 1):
        if wrap_text(text, width) != wrap_text(other, width):
            return width
    return None


def count_alike(text, low, high):
    """The number of texts that are alike to the text in the range."""
    require_text(text)
    require_range(low, high)
    # A text is alike exactly if it fits all that this one shows in the range.
    return count_texts([screen_of(text, width) for width in range(low, high + 1)])


def require_range(low, high):
    """Raises InvalidRange if the values are not two widths in this order."""
    if not is_width(low) or not is_width(high) or low > high:
        raise InvalidRange("a range is two widths, of which the first is not the greater one")
