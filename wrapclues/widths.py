"""The widths at which a text can have a given wrap."""

from wrapclues.clashes import are_screens, characters_of, is_screen, screens_of_all
from wrapclues.errors import InvalidLengths, InvalidScreens
from wrapclues.positions import pattern_of
from wrapclues.texts import MOST_WIDTH, count_characters, spans_of


def width_range(lengths, screens=None):
    """The least and the greatest width at which a text that fits the screens has the wrap,
    or None if there is no such width."""
    if not is_screen((1, lengths)):
        raise InvalidLengths("the lengths are not a wrap of at most 600 characters")
    pattern = pattern_for(count_characters(lengths), screens)
    spans = spans_of(lengths)
    # Each line but the last one ends at a space.
    if "x" in [pattern[end] for _, end in spans[:-1]]:
        return None
    least = least_width_for(pattern, spans)
    greatest = greatest_width_for(pattern, spans)
    if least > greatest:
        return None
    return (least, greatest)


def pattern_for(characters, screens):
    """The pattern of the screens, or of all texts if there are none."""
    if screens is None:
        return pattern_of(screens_of_all(characters))
    if not are_screens(screens) or characters_of(screens) != characters:
        raise InvalidScreens("screens with the number of characters of the lengths are required")
    return pattern_of(screens)


def least_width_for(pattern, spans):
    """The least width at which no line is long that certainly has a space in it."""
    lengths = [end - start for start, end in spans if "_" in pattern[start:end]]
    return max(lengths + [1])


def greatest_width_for(pattern, spans):
    """The greatest width at which no line reaches the next stop behind its end."""
    greatest = MOST_WIDTH
    for (start, end), (_, next_end) in zip(spans, spans[1:]):
        stop = pattern.find("_", end + 1, next_end)
        if stop < 0:
            stop = next_end
        greatest = min(greatest, stop - start - 1)
    return greatest
