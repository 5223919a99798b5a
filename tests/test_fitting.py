"""Promises 18 and 19, and 10 (a) to (c)."""

import unittest

import oracle
import wrong
from promise_case import PromiseCase, screens_at
from wrapclues.clashes import find_clash
from wrapclues.errors import InvalidNumber, InvalidScreens, InvalidText, NotFitting
from wrapclues.fitting import count_texts, fits, nth_text, text_index
from wrapclues.positions import pattern_of
from wrapclues.texts import is_text, wrap_text

SCREENS = [(5, [5, 2]), (3, [3, 1, 2])]

FITTED = [case for characters in range(1, 8)
          for case in oracle.fitted_lists(characters, range(1, characters + 3), range(1, characters + 3))]
FITTED += oracle.fitted_lists(10, [1, 2, 3, 4, 5, 6, 9, 10, 1000], [3, 6])


def triples(characters, step):
    """Lists of three screens that some text shows."""
    return [screens_at(text, widths) for text in oracle.all_texts(characters)[::step]
            for widths in [(4, 6, 7), (7, 3, 5), (9, 5, 5)]]


LONG_SCREENS = [[(1000, [600])], [(599, [600])], [(299, [299, 300])], [(300, [300, 299])], [(1, [600])],
                [(60, [59] * 10)], [(1000, [599])], [(1, [1] * 300)],
                screens_at([1] * 300, range(1, 41)), screens_at([1] * 300, range(100, 140)),
                screens_at([3, 1, 2] * 66 + [6], range(90, 130)), screens_at([3, 1, 2] * 66 + [6], [47]),
                screens_at([1, 2, 3, 4, 5, 6, 7, 8, 9] * 10, range(60, 540, 12)),
                screens_at([50, 1, 1, 90, 7, 200, 1, 1, 1, 3, 20, 100, 41, 70], range(7, 600, 15)),
                screens_at([2] * 200, [200, 3, 7]), screens_at([2] * 199 + [3], [200, 301, 1000])]


class FitsTest(PromiseCase):

    def check(self, screens, texts):
        for text in texts:
            expected = all(oracle.wrap_of(text, width) == lengths for width, lengths in screens)
            self.assertIs(fits(screens, text), expected, (screens, text))

    def test_all_texts_with_as_many_characters(self):
        for screens, texts in FITTED:
            self.check(screens, oracle.all_texts(oracle.characters_in(screens)))

    def test_all_pairs_of_screens_clashing_or_not(self):
        for characters in range(1, 6):
            texts = oracle.all_texts(characters)
            screens = oracle.all_screens(characters, range(1, characters + 2))
            for first in screens:
                self.check([first], texts)
                for second in screens:
                    pair = [first, second]
                    self.check(pair, texts)
                    self.assertEqual(any(fits(pair, text) for text in texts), find_clash(pair) is None)

    def test_three_screens(self):
        for screens in triples(9, 3):
            self.check(screens, oracle.all_texts(9))

    def test_no_text_fits_screens_that_clash(self):
        for screens in wrong.CLASHING:
            for characters in (7, 8, 9):
                for text in oracle.all_texts(characters):
                    self.assertIs(fits(screens, text), False)

    def test_texts_with_another_number_of_characters(self):
        for screens, _ in FITTED[::3]:
            characters = oracle.characters_in(screens)
            for other in {1, characters - 1, characters + 1, characters + 2} - {0, characters}:
                for text in oracle.all_texts(other):
                    self.assertIs(fits(screens, text), False)
        self.assertIs(fits([(1000, [599])], [600]), False)
        self.assertIs(fits([(1000, [600])], [599]), False)
        self.assertIs(fits([(5, [5, 2])], [3, 1, 2, 4]), False)
        self.assertIs(fits([(5, [5, 2])], [3, 1]), False)

    def test_one_screen_of_many(self):
        screens = [(5, [5, 2])] * 39
        self.assertIs(fits(screens + [(3, [3, 1, 2])], [3, 1, 2]), True)
        self.assertIs(fits(screens + [(3, [3, 4])], [3, 1, 2]), False)
        self.assertIs(fits([(3, [3, 4])] + screens, [3, 1, 2]), False)

    def test_long_texts(self):
        text = [3, 1, 2] * 66 + [6]
        screens = screens_at(text, range(20, 60))
        self.assertIs(fits(screens, text), True)
        self.assertIs(fits(screens, text[::-1]), False)
        self.assertIs(fits(screens, [1, 3, 2] + text[3:]), True)
        self.assertIs(fits(screens + [(3, wrap_text(text, 3))], [1, 3, 2] + text[3:]), False)
        self.assertIs(fits([(1000, [600])], [300, 299]), True)
        self.assertIs(fits([(599, [600])], [300, 299]), False)

    def test_errors(self):
        for value in wrong.NO_SCREEN_LISTS:
            for text in ([3, 1, 2], [9], None, [0], True):
                self.assert_raises_only(InvalidScreens, fits, value, text)
        for value in wrong.NO_TEXTS:
            self.assert_raises_only(InvalidText, fits, SCREENS, value)
            for screens in wrong.CLASHING:
                self.assert_raises_only(InvalidText, fits, screens, value)


class ShortTest(PromiseCase):
    """Each list of screens with all texts that have as many characters."""

    def check(self, screens, texts):
        texts = sorted(texts)
        self.assert_same(count_texts(screens), len(texts))
        self.assertEqual(oracle.product_over_groups(oracle.pattern_by_texts(texts)), len(texts))
        for number, text in enumerate(texts):
            self.assert_same(nth_text(screens, number), text)
            self.assert_same(text_index(screens, text), number)
        for number in (-1, len(texts), len(texts) + 1, -len(texts), 10 ** 160):
            self.assert_raises_only(InvalidNumber, nth_text, screens, number)
        for text in oracle.all_texts(oracle.characters_in(screens)):
            if text not in texts:
                self.assert_raises_only(NotFitting, text_index, screens, text)

    def test_one_and_two_screens(self):
        for screens, texts in FITTED:
            self.check(screens, texts)

    def test_three_screens(self):
        for screens in triples(11, 5):
            self.check(screens, oracle.fitting_texts(screens))

    def test_all_texts(self):
        for characters in range(1, 15):
            self.check([(1000, [characters])], oracle.all_texts(characters))

    def test_edges(self):
        self.assertEqual([count_texts([(1, [1])]), nth_text([(1, [1])], 0), text_index([(1, [1])], [1])], [1, [1], 0])
        self.assertEqual([nth_text([(1000, [3])], number) for number in range(2)], [[1, 1], [3]])
        self.assertEqual([count_texts([(1000, [2])]), count_texts([(1, [2])])], [1, 1])
        self.assertEqual([count_texts([(2, [3])]), count_texts([(3, [3])])], [1, 2])
        self.assertEqual(count_texts([(5, [5, 2])] * 40), 5)


class LongTest(PromiseCase):

    def numbers(self, count):
        marks = [0, 1, 2, 3, count - 1, count - 2, count // 2, count // 2 - 1, count // 2 + 1]
        marks += [count * part // 13 for part in range(1, 13)]
        return sorted({number for number in marks if 0 <= number < count})

    def test_count_is_the_product_over_the_groups(self):
        for screens in LONG_SCREENS:
            pattern = oracle.pattern_by_reasons(screens)
            self.assertEqual(pattern_of(screens), pattern)
            self.assert_same(count_texts(screens), oracle.product_over_groups(pattern))

    def test_known_counts(self):
        self.assertEqual(count_texts([(1000, [600])]), oracle.fibonacci(600))
        self.assertEqual(count_texts([(1000, [599])]), oracle.fibonacci(599))
        self.assertEqual(count_texts([(599, [600])]), 1)
        self.assertEqual(count_texts([(1, [1] * 300)]), 1)
        self.assertEqual(count_texts([(3, [3] * 150)]), 2 ** 150)
        self.assertEqual(count_texts([(4, [4] * 120)]), 3 ** 120)

    def test_numbers_and_texts_are_inverses(self):
        for screens in LONG_SCREENS:
            count = count_texts(screens)
            texts = []
            for number in self.numbers(count):
                texts.append(nth_text(screens, number))
                self.assert_same(text_index(screens, texts[-1]), number)
                self.assertIs(is_text(texts[-1]), True)
                self.assertEqual(screens_at(texts[-1], [width for width, _ in screens]), screens)
                self.assertIs(fits(screens, texts[-1]), True)
            self.assertEqual(texts, sorted(texts))
            self.assert_raises_only(InvalidNumber, nth_text, screens, count)
            self.assert_raises_only(InvalidNumber, nth_text, screens, -1)

    def test_first_and_last_text(self):
        self.assertEqual(nth_text([(1000, [600])], 0), [1] * 299 + [2])
        self.assertEqual(nth_text([(1000, [600])], 1), [1] * 298 + [2, 1])
        self.assertEqual(nth_text([(1000, [600])], oracle.fibonacci(600) - 1), [600])
        self.assertEqual(text_index([(1000, [600])], [600]), oracle.fibonacci(600) - 1)
        self.assertEqual(text_index([(1000, [600])], [598, 1]), oracle.fibonacci(600) - 2)

    def test_index_of_the_text_that_was_shown(self):
        text = [3, 1, 2] * 66 + [6]
        screens = screens_at(text, range(90, 130))
        self.assertEqual(nth_text(screens, text_index(screens, text)), text)
        self.assert_raises_only(NotFitting, text_index, screens, text[::-1])
        self.assert_raises_only(NotFitting, text_index, screens, text[:-1])


class ErrorsTest(PromiseCase):

    def test_wrong_screens_come_first(self):
        for value in wrong.NO_SCREEN_LISTS:
            self.assert_raises_only(InvalidScreens, count_texts, value)
            for number in (0, -1, None):
                self.assert_raises_only(InvalidScreens, nth_text, value, number)
            for text in ([3, 1, 2], [9], None):
                self.assert_raises_only(InvalidScreens, text_index, value, text)

    def test_clashes_come_next(self):
        for screens in wrong.CLASHING:
            self.assert_clash(screens, count_texts, screens)
            for number in (0, -1, None, True):
                self.assert_clash(screens, nth_text, screens, number)
            for text in ([3, 1, 2], [5, 2], [9], None, []):
                self.assert_clash(screens, text_index, screens, text)

    def test_wrong_numbers(self):
        for value in wrong.NO_INTEGERS + [-1, -2, 2, 3, 10 ** 160, -10 ** 160]:
            self.assert_raises_only(InvalidNumber, nth_text, SCREENS, value)

    def test_wrong_texts(self):
        for value in wrong.NO_TEXTS:
            self.assert_raises_only(InvalidText, text_index, SCREENS, value)

    def test_texts_that_do_not_fit(self):
        for text in ([3, 4], [1, 3, 2], [5, 2], [8], [3, 1], [3, 1, 3], [3, 1, 2, 1], [1], [600]):
            self.assert_raises_only(NotFitting, text_index, SCREENS, text)


class ConventionsTest(PromiseCase):

    def test_arguments_are_unchanged(self):
        self.assert_unchanged(fits, SCREENS, [3, 1, 2])
        self.assert_unchanged(fits, SCREENS, [9])
        self.assert_unchanged(count_texts, SCREENS)
        self.assert_unchanged(nth_text, SCREENS, 1)
        self.assert_unchanged(text_index, SCREENS, [3, 1, 2])

    def test_errors_leave_the_arguments_unchanged(self):
        screens, text = [(5, [5, 2]), (3, [3, 1, 2])], [5, 2]
        self.assert_raises_only(NotFitting, text_index, screens, text)
        self.assert_raises_only(InvalidNumber, nth_text, screens, 2)
        self.assertEqual([screens, text], [[(5, [5, 2]), (3, [3, 1, 2])], [5, 2]])

    def test_returned_lists_are_new(self):
        for number in range(2):
            self.assert_new(nth_text, SCREENS, number)
        screens = [(1, [1, 1, 1])]
        self.assert_new(nth_text, screens, 0)
        nth_text(screens, 0).append(5)
        self.assertEqual(screens, [(1, [1, 1, 1])])

    def test_arguments_by_name(self):
        self.assertIs(fits(text=[3, 1, 2], screens=SCREENS), True)
        self.assertEqual(count_texts(screens=SCREENS), 2)
        self.assertEqual(nth_text(number=1, screens=SCREENS), [3, 1, 2])
        self.assertEqual(text_index(text=[3, 1, 2], screens=SCREENS), 1)


if __name__ == "__main__":
    unittest.main()
