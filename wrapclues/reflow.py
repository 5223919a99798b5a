"""Wraps that begin at a word, and wraps before and after an edit of the text."""

from wrapclues.checks import are_wholes, is_whole_between
from wrapclues.errors import InvalidIndex, InvalidLengths, InvalidNumber
from wrapclues.texts import is_text, line_starts, require_text, require_width, spans_of, wrap_text


def wrap_from(text, width, word):
    """The wrap of the words from this index on."""
    require_text(text)
    require_width(width)
    require_index(word, len(text) - 1)
    return wrap_text(text[word:], width)


def meeting_word(text, width, first, second):
    """The least index of a word at which a line starts in the wraps from both words on, or
    None if there is none."""
    require_text(text)
    require_width(width)
    require_index(first, len(text) - 1)
    require_index(second, len(text) - 1)
    word_starts = [start for start, _ in spans_of(text)]
    lines = set([word_starts[second] + start for start in line_starts(text[second:], width)])
    for start in line_starts(text[first:], width):
        if word_starts[first] + start in lines:
            return word_starts.index(word_starts[first] + start)
    return None


def replace_words(text, first, count, words):
    """The text in which `count` words from the index `first` on are replaced."""
    require_text(text)
    # Behind the last word, words can still be inserted.
    require_index(first, len(text))
    if not is_whole_between(count, 0, len(text) - first):
        raise InvalidNumber("the text does not have as many words from there on")
    if not are_wholes(words):
        raise InvalidLengths("the words must be a list of integers from 1 on")
    changed = text[:first] + words + text[first + count:]
    if not is_text(changed):
        raise InvalidLengths("with these words it is not a text")
    return changed


def changed_lines(text, other, width):
    """The numbers of lengths with which both wraps begin alike, and their rests end alike."""
    require_text(text)
    require_text(other)
    require_width(width)
    before = wrap_text(text, width)
    after = wrap_text(other, width)
    begin = count_common(before, after)
    end = count_common(before[begin:][::-1], after[begin:][::-1])
    return (begin, end)


def require_index(index, greatest):
    """Raises InvalidIndex if the value is not an integer from 0 to the greatest index."""
    if not is_whole_between(index, 0, greatest):
        raise InvalidIndex("the text has no word with this index")


def count_common(row, other):
    """The greatest number of entries with which both lists begin alike."""
    for index, (entry, other_entry) in enumerate(zip(row, other)):
        if entry != other_entry:
            return index
    return min(len(row), len(other))
