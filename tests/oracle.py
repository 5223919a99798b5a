"""The definitions of the document, followed word by word and without any shortcut."""

import re


def all_texts(characters):
    """All texts with this number of characters."""
    texts = [[characters]]
    for first in range(1, characters - 1):
        texts += [[first] + rest for rest in all_texts(characters - first - 1)]
    return texts


def string_of(text):
    return " ".join("x" * length for length in text)


def spaces_in(text):
    return [position for position, sign in enumerate(string_of(text)) if sign == " "]


def lines_of(text, width):
    """The lines as point 5 says: the greatest stop within the width, else the least one."""
    characters = len(string_of(text))
    stops = spaces_in(text) + [characters]
    lines = []
    start = 0
    while True:
        within = [stop for stop in stops if start < stop <= start + width]
        end = max(within) if within else min(stop for stop in stops if stop > start)
        lines.append((start, end))
        if end == characters:
            return lines
        start = end + 1


def wrap_of(text, width):
    return [end - start for start, end in lines_of(text, width)]


def screen_lines(screen):
    """The lines of a screen as point 6 says."""
    lines = []
    for length in screen[1]:
        start = lines[-1][1] + 1 if lines else 0
        lines.append((start, start + length))
    return lines


def characters_in(screens):
    return screen_lines(screens[0])[-1][1]


def numbered_lines(screens):
    """Tuples (screen, line, width, start, end)."""
    return [(at, line, screen[0], start, end) for at, screen in enumerate(screens)
            for line, (start, end) in enumerate(screen_lines(screen))]


def room_of(width, start, end, characters):
    if end - start > width or end >= characters:
        return []
    return list(range(end + 1, start + width + 1))


def clashes_of(screens):
    """All clashes as point 7 says."""
    characters = characters_in(screens)
    clashes = set()
    for i, j, width, start, end in numbered_lines(screens):
        for k, l, _, _, other in numbered_lines(screens):
            if other in room_of(width, start, end, characters):
                clashes.add(("room", i, j, k, l))
            if end - start > width and start < other < end:
                clashes.add(("long", i, j, k, l))
            if other == end + 1:
                clashes.add(("beside", i, j, k, l))
    return clashes


def reasons_of(screens, position):
    """All reasons as point 8 says."""
    characters = characters_in(screens)
    reasons = {("first",)} if position == 0 else set()
    for i, j, width, start, end in numbered_lines(screens):
        if position == end:
            reasons.add(("break", i, j))
        if position in (end - 1, end + 1):
            reasons.add(("beside", i, j))
        if position in room_of(width, start, end, characters):
            reasons.add(("room", i, j))
        if end - start > width and start <= position < end:
            reasons.add(("long", i, j))
    return reasons


def clash_candidates(screens):
    """All tuples of the form of a clash, and some whose numbers are just outside."""
    longest = max(len(lengths) for _, lengths in screens)
    ats = range(-1, len(screens) + 1)
    lines = range(-1, longest + 1)
    return [(kind, i, j, k, l) for kind in ("room", "long", "beside", "break")
            for i in ats for j in lines for k in ats for l in lines]


def reason_candidates(screens):
    longest = max(len(lengths) for _, lengths in screens)
    pairs = [(i, j) for i in range(-1, len(screens) + 1) for j in range(-1, longest + 1)]
    kinds = ("break", "beside", "room", "long", "first")
    return [("first",), ("break",)] + [(kind, i, j) for kind in kinds for i, j in pairs]


def fitting_texts(screens):
    return [text for text in all_texts(characters_in(screens))
            if all(wrap_of(text, width) == lengths for width, lengths in screens)]


def pattern_by_texts(texts):
    """The pattern of a list of texts, read off the texts themselves."""
    strings = [string_of(text) for text in texts]
    marks = []
    for column in zip(*strings):
        if all(sign == " " for sign in column):
            marks.append("_")
        elif all(sign == "x" for sign in column):
            marks.append("x")
        else:
            marks.append("?")
    return "".join(marks)


def all_screens(characters, widths):
    """All single screens with this number of characters and one of the widths."""
    return [(width, lengths) for width in widths for lengths in all_texts(characters)]


def fitted_lists(characters, widths, first_widths):
    """All lists of one screen, or of two of which the first one has one of the first widths,
    that some text fits, each with the texts that fit them."""
    found = []
    texts = all_texts(characters)
    wraps = {(number, width): wrap_of(text, width) for number, text in enumerate(texts) for width in widths}
    screens = all_screens(characters, widths)
    pairs = [[first, second] for first in screens if first[0] in first_widths for second in screens]
    for screens in [[screen] for screen in screens] + pairs:
        fitting = [text for number, text in enumerate(texts)
                   if all(wraps[number, width] == lengths for width, lengths in screens)]
        if fitting:
            found.append((screens, fitting))
    return found


def pattern_by_reasons(screens):
    """The pattern of screens without a clash as point 8 says, for long ones."""
    characters = characters_in(screens)
    spaces, letters = set(), {0}
    for _, _, width, start, end in numbered_lines(screens):
        spaces.add(end)
        letters |= {end - 1, end + 1} | set(room_of(width, start, end, characters))
        if end - start > width:
            letters |= set(range(start, end))
    return "".join("_" if at in spaces else "x" if at in letters else "?" for at in range(characters))


def fibonacci(number):
    """F of 10 (c), with F(1) = F(2) = 1."""
    before, value = 1, 0
    for _ in range(number):
        before, value = value, before + value
    return value


def product_over_groups(pattern):
    """The number of fitting texts as 10 (c) says."""
    product = 1
    for group in re.findall(r"[?]+", pattern):
        product *= fibonacci(len(group) + 2)
    return product


def wraps_of(texts, width):
    """All different wraps of these texts, in ascending order."""
    return sorted([list(wrap) for wrap in {tuple(wrap_of(text, width)) for text in texts}])


def breaks_in(lengths):
    """The ends of the lines, without the last one."""
    return [end for _, end in screen_lines((1, lengths))[:-1]]


def visible_in(text, low, high):
    """The visible spaces as point 9 says."""
    return sorted({end for width in range(low, high + 1) for end in breaks_in(wrap_of(text, width))})


def text_with(characters, spaces):
    """The text with this number of characters and these spaces."""
    string = "".join(" " if position in spaces else "x" for position in range(characters))
    return [len(word) for word in string.split(" ")]
