"""Promises 9, 24 and 25, and 10 (f)."""

import unittest

import oracle
import wrong
from promise_case import PromiseCase
from wrapclues.cores import are_alike, core_of, count_alike, separating_width, visible_spaces
from wrapclues.errors import InvalidRange, InvalidText
from wrapclues.texts import wrap_text

ONE_TEXT = [visible_spaces, core_of, count_alike]
TWO_TEXTS = [are_alike, separating_width]

LONG_TEXTS = [[600], [1] * 300, [1] * 299 + [2], [300, 299], [3, 1, 2] * 66 + [6], [1, 2, 3, 4, 5, 6, 7, 8, 9] * 10,
              [50, 1, 1, 90, 7, 200, 1, 1, 1, 3, 20]]
LONG_RANGES = [(1, 1), (2, 2), (3, 9), (20, 20), (47, 300), (90, 91), (299, 301), (598, 599), (599, 1000), (600, 600),
               (600, 1000), (1000, 1000), (1, 1000)]


def ranges_for(characters):
    """All ranges of widths up to one beyond the characters, and some up to the greatest one."""
    widths = range(1, characters + 2)
    ranges = [(low, high) for low in widths for high in widths if low <= high]
    return ranges + [(1, 1000), (3, 1000), (characters, 1000), (999, 1000), (1000, 1000)]


def screens_in(text, low, high):
    """All that the text shows in a range; behind its characters, at one width."""
    characters = len(oracle.string_of(text))
    high = max(low, min(high, characters))
    return [(width, oracle.wrap_of(text, width)) for width in range(low, high + 1)]


class CoreTest(PromiseCase):

    def test_short_texts(self):
        for characters in range(1, 10):
            for text in oracle.all_texts(characters):
                wraps = {width: oracle.wrap_of(text, width) for width in range(1, characters + 2)}
                for low, high in ranges_for(characters):
                    # Behind the characters there is one line, without a break.
                    widths = [width for width in wraps if low <= width <= high]
                    visible = sorted({end for width in widths for end in oracle.breaks_in(wraps[width])})
                    self.assert_same(visible_spaces(text, low, high), visible)
                    self.assert_same(core_of(text, low, high), oracle.text_with(characters, visible))

    def test_the_definition_at_all_widths(self):
        for text in ([1, 1, 1, 1, 1], [3, 1, 2], [8], [1], [2, 2, 4, 1, 1]):
            for low, high in ((1, 1000), (4, 9), (7, 7), (8, 1000), (9, 1000), (1000, 1000)):
                self.assert_same(visible_spaces(text, low, high), oracle.visible_in(text, low, high))

    def test_long_texts(self):
        for text in LONG_TEXTS:
            characters = len(oracle.string_of(text))
            for low, high in LONG_RANGES:
                widths = range(low, high + 1)
                visible = sorted({end for width in widths for end in oracle.breaks_in(wrap_text(text, width))})
                self.assert_same(visible_spaces(text, low, high), visible)
                self.assert_same(core_of(text, low, high), oracle.text_with(characters, visible))

    def test_edges(self):
        self.assertEqual([visible_spaces([1], 1, 1000), core_of([1], 1, 1000)], [[], [1]])
        self.assertEqual([visible_spaces([3, 1, 2], 1, 1), core_of([3, 1, 2], 1, 1)], [[3, 5], [3, 1, 2]])
        self.assertEqual([visible_spaces([3, 1, 2], 4, 4), core_of([3, 1, 2], 4, 4)], [[3], [3, 4]])
        self.assertEqual([visible_spaces([3, 1, 2], 5, 7), core_of([3, 1, 2], 5, 7)], [[5], [5, 2]])
        self.assertEqual([visible_spaces([3, 1, 2], 4, 7), core_of([3, 1, 2], 4, 7)], [[3, 5], [3, 1, 2]])
        self.assertEqual([visible_spaces([3, 1, 2], 8, 1000), core_of([3, 1, 2], 8, 8)], [[], [8]])
        self.assertEqual(visible_spaces([1] * 300, 598, 599), [597])
        self.assertEqual(visible_spaces([1] * 300, 599, 1000), [])
        self.assertEqual(visible_spaces([1] * 299 + [2], 599, 1000), [597])
        self.assertEqual(visible_spaces([1] * 299 + [2], 600, 1000), [])


class AlikeTest(PromiseCase):

    def check(self, text, other, low, high, differing):
        expected = min(differing, default=None)
        self.assert_same(separating_width(text, other, low, high), expected)
        self.assert_same(are_alike(text, other, low, high), expected is None)

    def test_all_pairs_of_short_texts(self):
        for characters in range(1, 8):
            texts = oracle.all_texts(characters)
            for text in texts:
                for other in texts:
                    differing = [width for width in range(1, characters + 2)
                                 if oracle.wrap_of(text, width) != oracle.wrap_of(other, width)]
                    for low, high in ranges_for(characters)[::2]:
                        self.check(text, other, low, high, [width for width in differing if low <= width <= high])

    def test_guarantee_of_cores(self):
        for characters in range(1, 9):
            texts = oracle.all_texts(characters)
            for low, high in ranges_for(characters)[::3]:
                cores = [core_of(text, low, high) for text in texts]
                for text, core in zip(texts, cores):
                    self.assertIs(are_alike(text, core, low, high), True)
                    for other, other_core in zip(texts, cores):
                        self.assertIs(are_alike(text, other, low, high), core == other_core)

    def test_texts_with_other_numbers_of_characters(self):
        for low, high in ((1, 1), (1, 9), (5, 1000), (1000, 1000)):
            for text, other in (([5], [6]), ([3, 1, 2], [3, 1, 3]), ([3, 1], [3, 1, 2]), ([1], [600]), ([1, 1], [1])):
                self.assert_same(separating_width(text, other, low, high), low)
                self.assert_same(separating_width(other, text, low, high), low)
                self.assertIs(are_alike(text, other, low, high), False)
                self.assertIs(are_alike(other, text, low, high), False)

    def test_the_least_of_several_separating_widths(self):
        text, other = [1, 1, 3], [3, 1, 1]
        differing = [width for width in range(1, 9) if oracle.wrap_of(text, width) != oracle.wrap_of(other, width)]
        self.assertEqual(differing, [1, 2, 5, 6])
        self.assertEqual([separating_width(text, other, low, 9) for low in range(1, 10)],
                         [1, 2, 5, 5, 5, 6, None, None, None])
        self.assertEqual([separating_width(text, other, 3, high) for high in (3, 4, 5, 1000)], [None, None, 5, 5])

    def test_long_texts(self):
        for text in LONG_TEXTS:
            for low, high in LONG_RANGES:
                core = core_of(text, low, high)
                self.assertIs(are_alike(text, core, low, high), True)
                self.assertIsNone(separating_width(core, text, low, high))
        text, other = [3, 1, 2] * 66 + [6], [3, 1, 2] * 66 + [4, 1]
        self.assertEqual(separating_width(text, other, 1, 1000), 1)
        differing = [width for width in range(1, 1001) if wrap_text(text, width) != wrap_text(other, width)]
        for low in (1, 5, 6, 7, 12, 100, 598, 599, 600, 1000):
            self.check(text, other, low, 1000, [width for width in differing if width >= low])
        self.assertEqual(separating_width(text, [600], 500, 1000), 500)
        self.assertIsNone(separating_width(text, [600], 600, 1000))
        self.assertEqual(separating_width([1] * 299 + [2], [1] * 298 + [4], 1, 1000), 1)


class CountTest(PromiseCase):

    def test_short_texts(self):
        for characters in range(1, 10):
            texts = oracle.all_texts(characters)
            wraps = {(number, width): oracle.wrap_of(text, width)
                     for number, text in enumerate(texts) for width in range(1, characters + 2)}
            for low, high in ranges_for(characters):
                widths = [width for width in range(1, characters + 2) if low <= width <= high]
                shown = [[wraps[number, width] for width in widths] for number in range(len(texts))]
                for text, found in zip(texts, shown):
                    self.assert_same(count_alike(text, low, high), shown.count(found))

    def test_short_texts_one_by_one(self):
        for text in oracle.all_texts(7):
            for low, high in ranges_for(7):
                alike = [other for other in oracle.all_texts(7) if are_alike(text, other, low, high)]
                self.assertEqual(count_alike(text, low, high), len(alike))
                self.assertIn(text, alike)

    def test_long_texts(self):
        for text in LONG_TEXTS:
            for low, high in LONG_RANGES:
                pattern = oracle.pattern_by_reasons(screens_in(text, low, high))
                self.assert_same(count_alike(text, low, high), oracle.product_over_groups(pattern))

    def test_known_counts(self):
        self.assertEqual(count_alike([600], 1, 1), 1)
        self.assertEqual(count_alike([600], 599, 1000), 1)
        self.assertEqual(count_alike([600], 600, 1000), oracle.fibonacci(600))
        self.assertEqual(count_alike([1] * 299 + [2], 600, 600), oracle.fibonacci(600))
        self.assertEqual(count_alike([1] * 299 + [2], 599, 1000), oracle.fibonacci(597))
        self.assertEqual(count_alike([1] * 300, 1, 1000), 1)
        self.assertEqual(count_alike([1] * 300, 3, 3), 2 ** 150)
        self.assertEqual(count_alike([1], 1, 1000), 1)


class ErrorsTest(PromiseCase):

    def test_the_text_comes_first(self):
        for value in wrong.NO_TEXTS:
            for low, high in ((1, 9), (0, 9), (9, 1), (None, None)):
                for function in ONE_TEXT:
                    self.assert_raises_only(InvalidText, function, value, low, high)
                for function in TWO_TEXTS:
                    self.assert_raises_only(InvalidText, function, value, [3, 1, 2], low, high)
                    self.assert_raises_only(InvalidText, function, value, value, low, high)

    def test_the_other_text_comes_next(self):
        for value in wrong.NO_TEXTS:
            for low, high in ((1, 9), (0, 9), (9, 1), (None, None)):
                for function in TWO_TEXTS:
                    self.assert_raises_only(InvalidText, function, [3, 1, 2], value, low, high)

    def test_wrong_ranges(self):
        for low, high in wrong.NO_RANGES:
            for function in ONE_TEXT:
                self.assert_raises_only(InvalidRange, function, [3, 1, 2], low, high)
            for function in TWO_TEXTS:
                self.assert_raises_only(InvalidRange, function, [3, 1, 2], [3, 4], low, high)
                self.assert_raises_only(InvalidRange, function, [3, 1, 2], [3, 1], low, high)

    def test_a_range_of_one_width_is_one(self):
        for width in (1, 5, 8, 9, 1000):
            self.assertEqual(are_alike([3, 1, 2], [3, 1, 2], width, width), True)
            self.assertEqual(core_of([8], width, width), [8])


class ConventionsTest(PromiseCase):

    def test_arguments_are_unchanged(self):
        for low, high in ((1, 1), (3, 5), (8, 1000)):
            for function in ONE_TEXT:
                self.assert_unchanged(function, [3, 1, 2], low, high)
            for function in TWO_TEXTS:
                self.assert_unchanged(function, [3, 1, 2], [5, 2], low, high)

    def test_returned_lists_are_new(self):
        self.assert_new(visible_spaces, [3, 1, 2], 1, 9)
        self.assert_new(core_of, [3, 1, 2], 1, 9)
        text = [3, 1, 2]
        self.assertIsNot(core_of(text, 1, 1), text)
        core_of(text, 1, 1).append(4)
        self.assertEqual(text, [3, 1, 2])

    def test_arguments_by_name(self):
        self.assertEqual(visible_spaces(high=9, low=4, text=[1] * 5), [3, 5, 7])
        self.assertEqual(core_of(high=9, low=4, text=[1] * 5), [3, 1, 1, 1])
        self.assertIs(are_alike(high=9, low=4, other=[3, 1, 1, 1], text=[1] * 5), True)
        self.assertEqual(separating_width(high=9, low=2, other=[3, 1, 1, 1], text=[1] * 5), 2)
        self.assertEqual(count_alike(high=5, low=3, text=[3, 1, 2]), 2)


if __name__ == "__main__":
    unittest.main()
