"""Promises 26 and 27, and 10 (g)."""

import random
import unittest

import oracle
import wrong
from promise_case import PromiseCase
from wrapclues.errors import InvalidIndex, InvalidLengths, InvalidNumber, InvalidText, InvalidWidth
from wrapclues.reflow import changed_lines, meeting_word, replace_words, wrap_from
from wrapclues.texts import wrap_text

LONG_TEXTS = [[600], [1] * 300, [1] * 299 + [2], [300, 299], [3, 1, 2] * 66 + [6], [1, 2, 3, 4, 5, 6, 7, 8, 9] * 10,
              [50, 1, 1, 90, 7, 200, 1, 1, 1, 3, 20, 100, 41, 71]]
LONG_WIDTHS = [1, 2, 3, 7, 13, 47, 90, 299, 300, 598, 599, 600, 601, 1000]


def drawn_texts(count, characters):
    """Texts with this number of characters, the same ones at each run."""
    draw = random.Random(26)
    texts = []
    for _ in range(count):
        text, most = [], draw.choice([1, 2, 5, 12, 40, 150])
        while sum(text) + len(text) < characters - most - 1:
            text.append(draw.randint(1, most))
        text.append(characters - sum(text) - len(text))
        texts.append(text)
    return texts


def words_at_starts(text, width, word):
    """The indices of the words at which lines start, from the definition of a line."""
    first_letters = [0] + [position + 1 for position in oracle.spaces_in(text)]
    lines = oracle.lines_of(text[word:], width)
    return [first_letters.index(first_letters[word] + start) for start, _ in lines]


class WrapFromTest(PromiseCase):

    def check(self, text, width, word):
        self.assert_same(wrap_from(text, width, word), oracle.wrap_of(text[word:], width))

    def test_every_word_of_short_texts(self):
        for characters in range(1, 11):
            for text in oracle.all_texts(characters):
                for width in list(range(1, characters + 3)) + [1000]:
                    for word in range(len(text)):
                        self.check(text, width, word)

    def test_drawn_words_of_long_texts(self):
        draw = random.Random(1)
        for text in LONG_TEXTS + drawn_texts(6, 600):
            for width in LONG_WIDTHS:
                for word in {0, len(text) - 1, len(text) // 2, draw.randrange(len(text)), draw.randrange(len(text))}:
                    self.check(text, width, word)

    def test_edges(self):
        self.assertEqual([wrap_from([3, 1, 2], 5, word) for word in range(3)], [[5, 2], [4], [2]])
        self.assertEqual(wrap_from([1], 1000, 0), [1])
        self.assertEqual(wrap_from([9, 1, 9, 1], 2, 1), [1, 9, 1])
        self.assertEqual(wrap_from([600], 1, 0), [600])
        for text in LONG_TEXTS:
            for width in LONG_WIDTHS:
                self.assertEqual(wrap_from(text, width, 0), wrap_text(text, width))

    def test_errors(self):
        for value in wrong.NO_TEXTS:
            for width, word in ((3, 0), (0, 0), (3, -1), (None, None)):
                self.assert_raises_only(InvalidText, wrap_from, value, width, word)
        for value in wrong.NO_WIDTHS:
            for word in (0, 3, -1, None):
                self.assert_raises_only(InvalidWidth, wrap_from, [3, 1, 2], value, word)
        for value in wrong.NO_INTEGERS + [-1, -3, 3, 4, 600, 10 ** 160, -10 ** 160]:
            self.assert_raises_only(InvalidIndex, wrap_from, [3, 1, 2], 3, value)


class MeetingTest(PromiseCase):

    def check(self, text, width, starts, first, second):
        expected = min(set(starts[first]) & set(starts[second]), default=None)
        self.assert_same(meeting_word(text, width, first, second), expected)

    def check_guarantee(self, one, other):
        """10 (g), for the words at which the lines of two wraps start."""
        common = set(one) & set(other)
        if common:
            self.assertEqual(one[one.index(min(common)):], other[other.index(min(common)):])
        later = max(one[0], other[0])
        for lines, others in ((one, other), (other, one)):
            for low, high in zip(lines, lines[1:]):
                self.assertLessEqual(len([word for word in others if low < word < high and word > later]), 1)

    def check_all(self, text, width, words):
        starts = {word: words_at_starts(text, width, word) for word in words}
        for first in words:
            for second in words:
                self.check(text, width, starts, first, second)
                self.check_guarantee(starts[first], starts[second])

    def test_all_pairs_of_words_of_short_texts(self):
        for characters in range(1, 11):
            for text in oracle.all_texts(characters):
                for width in list(range(1, characters + 3)) + [1000]:
                    self.check_all(text, width, range(len(text)))

    def test_all_pairs_of_middling_texts(self):
        for text in drawn_texts(8, 50):
            for width in (1, 2, 3, 5, 8, 13, 20, 49, 50, 51):
                self.check_all(text, width, range(len(text)))

    def test_drawn_words_of_long_texts(self):
        draw = random.Random(2)
        for text in LONG_TEXTS + drawn_texts(4, 600):
            drawn = [draw.randrange(len(text)) for _ in range(3)]
            for width in LONG_WIDTHS:
                self.check_all(text, width, sorted({0, len(text) - 1, *drawn}))

    def test_edges(self):
        self.assertEqual([meeting_word([3, 1, 2], 3, word, word) for word in range(3)], [0, 1, 2])
        self.assertEqual([meeting_word([3, 1, 2], 3, 0, 2), meeting_word([3, 1, 2], 3, 2, 0)], [2, 2])
        self.assertEqual([meeting_word([1] * 5, 3, 0, 1), meeting_word([1] * 5, 3, 1, 0)], [None, None])
        self.assertEqual([meeting_word([1] * 5, 3, 0, 2), meeting_word([1] * 5, 3, 4, 2)], [2, 4])
        self.assertEqual(meeting_word([1, 1, 5, 1], 1000, 0, 3), None)
        self.assertEqual(meeting_word([1] * 300, 3, 0, 299), None)
        self.assertEqual(meeting_word([1] * 300, 3, 0, 298), 298)

    def test_errors(self):
        for value in wrong.NO_TEXTS:
            for width, first, second in ((3, 0, 0), (0, 0, 0), (3, -1, 9), (None, None, None)):
                self.assert_raises_only(InvalidText, meeting_word, value, width, first, second)
        for value in wrong.NO_WIDTHS:
            for first, second in ((0, 1), (3, 0), (0, 3), (None, None)):
                self.assert_raises_only(InvalidWidth, meeting_word, [3, 1, 2], value, first, second)
        for value in wrong.NO_INTEGERS + [-1, -3, 3, 4, 600, 10 ** 160, -10 ** 160]:
            self.assert_raises_only(InvalidIndex, meeting_word, [3, 1, 2], 3, value, 0)
            self.assert_raises_only(InvalidIndex, meeting_word, [3, 1, 2], 3, 2, value)
            self.assert_raises_only(InvalidIndex, meeting_word, [3, 1, 2], 3, value, value)


class ReplaceTest(PromiseCase):

    def test_all_places_of_short_texts(self):
        news = [[], [1], [4, 4], [2, 1, 7]]
        for characters in range(1, 9):
            for text in oracle.all_texts(characters):
                for first in range(len(text) + 1):
                    for count in range(len(text) - first + 1):
                        for words in news:
                            self.check(text, first, count, words)

    def check(self, text, first, count, words):
        rows = [[length] for length in text]
        rows[first:first + count] = [words]
        expected = [length for row in rows for length in row]
        if not expected:
            self.assert_raises_only(InvalidLengths, replace_words, text, first, count, words)
            return
        self.assert_same(replace_words(text, first, count, words), expected)
        back = replace_words(expected, first, len(words), text[first:first + count])
        self.assert_same(back, text)

    def test_places(self):
        text = [3, 1, 2]
        self.assertEqual(replace_words(text, 0, 0, [5]), [5, 3, 1, 2])
        self.assertEqual(replace_words(text, 0, 1, [5]), [5, 1, 2])
        self.assertEqual(replace_words(text, 1, 0, [5, 6]), [3, 5, 6, 1, 2])
        self.assertEqual(replace_words(text, 2, 1, []), [3, 1])
        self.assertEqual(replace_words(text, 3, 0, [5]), [3, 1, 2, 5])
        self.assertEqual(replace_words(text, 3, 0, []), text)
        self.assertEqual(replace_words(text, 0, 3, [9]), [9])
        self.assertEqual(replace_words(text, 0, 2, []), [2])

    def test_no_word_left(self):
        for text in ([1], [3, 1, 2], [600], [1] * 300):
            self.assert_raises_only(InvalidLengths, replace_words, text, 0, len(text), [])
        self.assertEqual(replace_words([600], 0, 1, [1]), [1])

    def test_600_and_601_characters(self):
        self.assertEqual(replace_words([3, 1, 2], 1, 1, [593]), [3, 593, 2])
        self.assert_raises_only(InvalidLengths, replace_words, [3, 1, 2], 1, 1, [594])
        self.assertEqual(replace_words([598], 1, 0, [1]), [598, 1])
        self.assert_raises_only(InvalidLengths, replace_words, [599], 1, 0, [1])
        self.assert_raises_only(InvalidLengths, replace_words, [598], 0, 0, [2])
        self.assert_raises_only(InvalidLengths, replace_words, [1] * 300, 300, 0, [1])
        self.assertEqual(replace_words([1] * 300, 299, 1, [2]), [1] * 299 + [2])
        self.assertEqual(replace_words([600], 0, 1, [1] * 300), [1] * 300)
        self.assert_raises_only(InvalidLengths, replace_words, [600], 0, 1, [1] * 301)
        self.assert_raises_only(InvalidLengths, replace_words, [600], 0, 1, [601])

    def test_putting_the_old_words_back_in_long_texts(self):
        draw = random.Random(3)
        for text in LONG_TEXTS + drawn_texts(6, 600):
            for _ in range(10):
                first = draw.randint(0, len(text))
                count = draw.randint(0, len(text) - first)
                taken = text[first:first + count]
                words = [sum(taken) + len(taken) - 1] if taken else []
                changed = replace_words(text, first, count, words)
                self.assertEqual(changed, text[:first] + words + text[first + count:])
                self.assertEqual(replace_words(changed, first, len(words), taken), text)

    def test_errors_in_their_order(self):
        for value in wrong.NO_TEXTS:
            for first, count, words in ((0, 0, [1]), (-1, 0, [1]), (0, -1, [1]), (None, None, None)):
                self.assert_raises_only(InvalidText, replace_words, value, first, count, words)
        for value in wrong.NO_INTEGERS + [-1, -3, 4, 5, 600, 10 ** 160, -10 ** 160]:
            for count, words in ((0, [1]), (-1, [1]), (0, None), (None, None)):
                self.assert_raises_only(InvalidIndex, replace_words, [3, 1, 2], value, count, words)
        for value in wrong.NO_INTEGERS + [-1, -3, 3, 4, 600, 10 ** 160, -10 ** 160]:
            for words in ([1], [], [0], None):
                self.assert_raises_only(InvalidNumber, replace_words, [3, 1, 2], 1, value, words)
        self.assert_raises_only(InvalidNumber, replace_words, [3, 1, 2], 3, 1, [1])
        self.assert_raises_only(InvalidNumber, replace_words, [3, 1, 2], 0, 4, [1])

    def test_wrong_words(self):
        for value in wrong.NO_TEXTS:
            if value != []:
                for first, count in ((0, 0), (1, 1), (3, 0), (0, 3)):
                    self.assert_raises_only(InvalidLengths, replace_words, [3, 1, 2], first, count, value)
        for value in (None, True, 1, "", (), {}, set(), "1", (1,)):
            self.assert_raises_only(InvalidLengths, replace_words, [3, 1, 2], 1, 0, value)


class ChangedLinesTest(PromiseCase):

    def check(self, text, other, width):
        before, after = oracle.wrap_of(text, width), oracle.wrap_of(other, width)
        least = min(len(before), len(after))
        begin = max(size for size in range(least + 1) if before[:size] == after[:size])
        rests = (before[begin:], after[begin:])
        end = max(size for size in range(least - begin + 1)
                  if rests[0][len(rests[0]) - size:] == rests[1][len(rests[1]) - size:])
        self.assert_same(changed_lines(text, other, width), (begin, end))
        self.assert_same(changed_lines(other, text, width), (begin, end))

    def test_all_pairs_of_short_texts(self):
        texts = [text for characters in range(1, 8) for text in oracle.all_texts(characters)]
        for at, text in enumerate(texts):
            for other in texts[at:]:
                for width in (1, 2, 3, 4, 5, 7, 8, 1000):
                    self.check(text, other, width)

    def test_edits_of_long_texts(self):
        draw = random.Random(4)
        for text in drawn_texts(8, 560) + [text for text in LONG_TEXTS if sum(text) + len(text) < 560]:
            for words in ([1], [], [7, 2], [30]):
                first = draw.randrange(len(text))
                other = text[:first] + words + text[first + 1:]
                for width in LONG_WIDTHS:
                    self.check(text, other, width)

    def test_equal_texts(self):
        for text in LONG_TEXTS + [[1], [3, 1, 2]]:
            for width in LONG_WIDTHS:
                self.assert_same(changed_lines(text, text, width), (len(wrap_text(text, width)), 0))
        # Another text with the same wrap is no difference either.
        self.assert_same(changed_lines([3, 1, 2], [5, 2], 5), (2, 0))

    def test_one_word_differs_or_is_more_or_less(self):
        self.assertEqual(changed_lines([4, 4, 4, 4], [4, 3, 4, 4], 4), (1, 2))
        self.assertEqual(changed_lines([4, 3, 2, 1], [4, 3, 9, 2, 1], 1), (2, 2))
        self.assertEqual(changed_lines([4, 3, 2, 1], [4, 3, 1], 1), (2, 1))
        self.assertEqual(changed_lines([4, 3, 2, 1], [3, 2, 1], 1), (0, 3))
        self.assertEqual(changed_lines([4, 3, 2, 1], [4, 3, 2], 1), (3, 0))

    def test_nothing_in_common(self):
        self.assertEqual(changed_lines([1, 1], [2, 2], 1), (0, 0))
        self.assertEqual(changed_lines([600], [1], 1000), (0, 0))

    def test_the_beginning_counts_first(self):
        self.assertEqual(changed_lines([2, 2, 2], [2, 2], 2), (2, 0))
        self.assertEqual(changed_lines([2, 2, 2], [2, 2, 2, 2], 2), (3, 0))
        self.assertEqual(changed_lines([1, 2, 1], [1, 2, 1, 2, 1], 1), (3, 0))
        self.assertEqual(changed_lines([2, 1, 2], [2, 2], 1), (1, 1))
        self.assertEqual(changed_lines([1] * 300, [1] * 299, 1), (299, 0))

    def test_errors(self):
        for value in wrong.NO_TEXTS:
            for other, width in (([3, 1, 2], 3), (value, 0), ([0], None)):
                self.assert_raises_only(InvalidText, changed_lines, value, other, width)
            for width in (3, 0, None):
                self.assert_raises_only(InvalidText, changed_lines, [3, 1, 2], value, width)
        for value in wrong.NO_WIDTHS:
            self.assert_raises_only(InvalidWidth, changed_lines, [3, 1, 2], [3, 1], value)
            self.assert_raises_only(InvalidWidth, changed_lines, [3, 1, 2], [3, 1, 2], value)


class ConventionsTest(PromiseCase):

    def test_arguments_are_unchanged(self):
        self.assert_unchanged(wrap_from, [3, 1, 2], 3, 1)
        self.assert_unchanged(meeting_word, [1, 1, 5, 1], 3, 0, 1)
        self.assert_unchanged(replace_words, [3, 1, 2], 1, 1, [4, 4])
        self.assert_unchanged(replace_words, [3, 1, 2], 0, 3, [4, 4])
        self.assert_unchanged(changed_lines, [1, 1, 5, 1], [2, 1, 5, 1], 3)

    def test_errors_leave_the_arguments_unchanged(self):
        text, words = [3, 1, 2], [4, 0]
        self.assert_raises_only(InvalidLengths, replace_words, text, 1, 1, words)
        self.assert_raises_only(InvalidNumber, replace_words, text, 1, 3, words)
        self.assertEqual([text, words], [[3, 1, 2], [4, 0]])

    def test_returned_lists_are_new(self):
        self.assert_new(wrap_from, [3, 1, 2], 1, 0)
        self.assert_new(wrap_from, [3, 1, 2], 3, 1)
        self.assert_new(replace_words, [3, 1, 2], 1, 1, [4, 4])
        self.assert_new(replace_words, [3, 1, 2], 0, 3, [4, 4])
        self.assert_new(replace_words, [3, 1, 2], 3, 0, [])
        text = [3, 1, 2]
        replace_words(text, 0, 0, []).append(5)
        wrap_from(text, 1, 0).append(5)
        self.assertEqual(text, [3, 1, 2])

    def test_arguments_by_name(self):
        self.assertEqual(wrap_from(word=1, width=3, text=[3, 1, 2]), [1, 2])
        self.assertEqual(meeting_word(second=1, first=0, width=3, text=[1, 1, 5, 1]), 2)
        self.assertEqual(replace_words(words=[4, 4], count=1, first=1, text=[3, 1, 2]), [3, 4, 4, 2])
        self.assertEqual(changed_lines(width=3, other=[2, 1, 5, 1], text=[1, 1, 5, 1]), (0, 2))


if __name__ == "__main__":
    unittest.main()
