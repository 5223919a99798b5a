"""The lines that fitting texts can have at another width."""

from wrapclues.checks import is_whole_between
from wrapclues.clashes import are_screens, find_clash
from wrapclues.errors import InvalidNumber, NotFitting
from wrapclues.positions import pattern_of
from wrapclues.texts import require_width


def fewest_lines(screens, width):
    """The least number of lines that a fitting text has at the width."""
    return fold_rests(possible_ends(screens, width), width, 1, lesser)[0][1]


def most_lines(screens, width):
    """The greatest number of lines that a fitting text has at the width."""
    return fold_rests(possible_ends(screens, width), width, 1, greater)[0][1]


def possible_breaks(screens, width):
    """The positions before the end at which a line ends in some fitting text."""
    ends = possible_ends(screens, width)
    return sorted(set([end for _, end in linked_lines(ends) if end < len(ends)]))


def certain_breaks(screens, width):
    """The positions before the end at which a line ends in every fitting text."""
    ends = possible_ends(screens, width)
    furthest = [0] * len(ends)
    for start, end in linked_lines(ends):
        furthest[start] = max(furthest[start], end)
    breaks = []
    reach = 0
    for position, end in enumerate(furthest):
        reach = max(reach, end)
        # A line that starts before the position and ends behind it would skip it.
        if reach <= position:
            breaks.append(position)
    return breaks


def count_wraps(screens, width):
    """The number of different wraps that fitting texts have at the width."""
    return count_rests(possible_ends(screens, width), width)[0][1]


def nth_wrap(screens, width, number):
    """The wrap with this number, in ascending order."""
    ends = possible_ends(screens, width)
    counts = count_rests(ends, width)
    if not is_whole_between(number, 0, counts[0][1] - 1):
        raise InvalidNumber("no wrap has this number")
    lengths = []
    left = number
    start, least = 0, 1
    while start < len(ends):
        # Wraps with a shorter line here are less: skip as many of them as the number allows.
        row = counts[start]
        end = max([stop for stop in ends[start] if stop >= least and row[least] - row[stop] <= left])
        left -= row[least] - row[end]
        lengths.append(end - start)
        start, least = end + 1, next_least(start, end, width)
    return lengths


def wrap_index(screens, width, lengths):
    """The number of a wrap."""
    ends = possible_ends(screens, width)
    shown = screens + [(width, lengths)]
    if not are_screens(shown) or find_clash(shown) is not None:
        raise NotFitting("no fitting text has this wrap at the width")
    counts = count_rests(ends, width)
    index = 0
    start, least = 0, 1
    for length in lengths:
        end = start + length
        index += counts[start][least] - counts[start][end]
        start, least = end + 1, next_least(start, end, width)
    return index


def possible_ends(screens, width):
    """For each position, the ascending list of the ends that a line can have which starts
    there; it is empty for a position at which no line starts."""
    pattern = pattern_of(screens)
    require_width(width)
    # The number of characters is a stop of all texts.
    stops = pattern + "_"
    return [ends_from(stops, width, start) for start in range(len(pattern))]


def ends_from(stops, width, start):
    """The ascending list of the ends that a line with this start can have."""
    if start > 0 and stops[start - 1] == "x":
        return []
    last_certain = stops.rfind("_", start + 1, start + width + 1)
    if last_certain >= 0:
        low = last_certain
        high = min(start + width, len(stops) - 1)
    else:
        # The first word of the line may be long, up to the next position that is surely a stop.
        low = start + 1
        high = stops.find("_", start + 1)
    return [end for end in range(low, high + 1) if stops[end] != "x"]


def next_least(start, end, width):
    """The least end that the line behind a line with this start and end can have: its first
    word did not fit into the line before it."""
    return max(end + 2, start + width + 1)


def linked_lines(ends):
    """The tuples (start, end) of the lines that can follow each other from the first position
    on, by ascending starts."""
    # Lines that would have fitted into the line before them are kept here: one line in place
    # of both is possible then, and it has the same end and skips even more positions.
    linked = {0: True}
    lines = []
    for start in range(len(ends)):
        if start in linked:
            for end in ends[start]:
                lines.append((start, end))
                linked[end + 1] = True
    return lines


def count_rests(ends, width):
    """As fold_rests, with the number of the ways to go on."""
    return fold_rests(ends, width, 0, added)


def fold_rests(ends, width, step, merge):
    """A table whose entry [start][position] merges the values of all ways to go on from a
    line with this start that ends at the position or behind it. The last line has the value
    1, and each line before it adds `step`."""
    table = [[] for _ in ends]
    for start in reversed(range(len(ends))):
        if ends[start]:
            table[start] = fold_row(ends, width, start, step, merge, table)
    return table


def fold_row(ends, width, start, step, merge, table):
    """The row of the table for this start, when the rows of all later starts are there."""
    row = [None] * (ends[start][-1] + 1)
    for end in ends[start]:
        row[end] = 1
        if end < len(ends):
            row[end] = step + table[end + 1][next_least(start, end, width)]
    for position in reversed(range(start + 1, len(row) - 1)):
        if row[position] is None:
            row[position] = row[position + 1]
        else:
            row[position] = merge(row[position], row[position + 1])
    return row


def added(one, other):
    """The sum of two values."""
    return one + other


def lesser(one, other):
    """The lesser one of two values."""
    return min(one, other)


def greater(one, other):
    """The greater one of two values."""
    return max(one, other)
