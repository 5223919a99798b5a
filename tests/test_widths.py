"""Promise 23, and 10 (e)."""

import unittest

import oracle
import wrong
from promise_case import PromiseCase, screens_at
from wrapclues.clashes import find_clash
from wrapclues.errors import InvalidLengths, InvalidScreens
from wrapclues.texts import line_starts, wrap_text
from wrapclues.widths import width_range

FITTED = [case for characters in range(1, 7)
          for case in oracle.fitted_lists(characters, range(1, characters + 3), range(1, characters + 3))]
FITTED += oracle.fitted_lists(7, range(1, 10), [2, 4, 7])
FITTED += oracle.fitted_lists(10, [2, 3, 4, 5], [3])

# A wrap, and screens with another number of characters.
LENGTHS = [5, 2]
OTHER_SCREENS = [[(5, [5, 3])], [(5, [7])], [(5, [9])], [(1, [600])], [(5, [5, 3]), (3, [3, 1, 3])]]


class ShortTest(PromiseCase):

    def ranges(self, texts):
        """For each wrap of these texts, all widths at which one of them has it, up to one
        beyond their characters: behind that they have a single line at all widths."""
        characters = len(oracle.string_of(texts[0]))
        found = {}
        for width in range(1, characters + 2):
            for text in texts:
                found.setdefault(tuple(oracle.wrap_of(text, width)), set()).add(width)
        return characters, found

    def expected(self, characters, widths):
        if not widths:
            return None
        least, greatest = min(widths), max(widths)
        self.assertEqual(sorted(widths), list(range(least, greatest + 1)))
        return (least, 1000 if greatest > characters else greatest)

    def check(self, screens, texts):
        characters, found = self.ranges(texts)
        for lengths in oracle.all_texts(characters):
            expected = self.expected(characters, found.get(tuple(lengths), set()))
            self.assert_same(width_range(lengths, screens), expected)

    def test_without_screens(self):
        for characters in range(1, 13):
            texts = oracle.all_texts(characters)
            _, found = self.ranges(texts)
            for lengths in texts:
                expected = self.expected(characters, found[tuple(lengths)])
                self.assert_same(width_range(lengths), expected)
                self.assert_same(width_range(lengths, None), expected)
                self.assert_same(width_range(lengths, [(1000, [characters])]), expected)

    def test_with_one_and_two_screens(self):
        for screens, texts in FITTED:
            self.check(screens, texts)

    def test_with_three_screens(self):
        for text in oracle.all_texts(11)[::7]:
            for widths in ((4, 6, 7), (7, 3, 9)):
                screens = screens_at(text, widths)
                self.check(screens, oracle.fitting_texts(screens))

    def test_with_one_screen_of_middling_texts(self):
        texts = oracle.all_texts(14)
        for width in (3, 6, 10):
            for text in texts[::67]:
                screens = screens_at(text, [width])
                self.check(screens, [other for other in texts if oracle.wrap_of(other, width) == screens[0][1]])


class EdgesTest(PromiseCase):

    def test_one_line(self):
        for characters in (1, 2, 3, 8, 599, 600):
            self.assert_same(width_range([characters]), (1, 1000))
            self.assert_same(width_range([characters], [(1000, [characters])]), (1, 1000))
            self.assert_same(width_range([characters], [(1, [characters])]), (1, 1000))
        self.assert_same(width_range([8], [(5, [5, 2])]), (8, 1000))
        self.assert_same(width_range([600], [(300, [300, 299])]), (600, 1000))

    def test_two_lines(self):
        self.assert_same(width_range([1, 1]), (1, 2))
        self.assert_same(width_range([5, 2]), (1, 7))
        self.assert_same(width_range([300, 299]), (1, 599))
        self.assert_same(width_range([1, 598]), (1, 599))
        self.assert_same(width_range([598, 1]), (1, 599))

    def test_a_long_line_is_no_longer_long_with_a_space_in_it(self):
        self.assert_same(width_range([5, 2], [(3, [3, 1, 2])]), (5, 7))
        self.assert_same(width_range([5, 2], [(3, [5, 2])]), (1, 7))
        self.assert_same(width_range([3, 4], [(3, [3, 1, 2])]), (4, 4))
        self.assert_same(width_range([3, 4], [(3, [3, 4])]), (1, 7))

    def test_none(self):
        self.assertIsNone(width_range([5, 2], [(4, [4, 3])]))
        self.assertIsNone(width_range([4, 3], [(5, [5, 2])]))
        self.assertIsNone(width_range([2, 5], [(3, [3, 4])]))
        self.assertIsNone(width_range([1, 6], [(1, [8])]))
        # The space within the second line asks for 3, the one behind the first line for at most 2.
        self.assertIsNone(width_range([1, 3, 1], [(1, [1, 1, 1, 1])]))

    def test_the_screens_may_be_many(self):
        text = [1, 2, 3, 4, 5, 6, 7, 8, 9] * 10
        screens = screens_at(text, range(20, 60))
        for width in range(15, 65):
            lengths = wrap_text(text, width)
            least, greatest = width_range(lengths, screens)
            self.assertTrue(least <= width <= greatest)
            if 20 <= width < 60:
                self.assertEqual(wrap_text(text, least), lengths)
                self.assertEqual(wrap_text(text, greatest), lengths)


class LongTest(PromiseCase):

    def check(self, lengths, screens):
        fitting = [width for width in range(1, 1001) if find_clash(screens + [(width, lengths)]) is None]
        if not fitting:
            self.assertIsNone(width_range(lengths, screens))
            return
        self.assertEqual(fitting, list(range(fitting[0], fitting[-1] + 1)))
        self.assert_same(width_range(lengths, screens), (fitting[0], fitting[-1]))

    def test_600_characters_at_all_widths(self):
        text = [3, 1, 2] * 66 + [6]
        for screens in (screens_at(text, [47]), screens_at(text, [90, 130])):
            for width in (60, 91, 333):
                self.check(wrap_text(text, width), screens)
                self.check(wrap_text(text[::-1], width), screens)
        self.check([299, 300], [(1000, [600])])
        self.check([299, 300], [(299, [299, 300])])
        self.check([100, 99, 99, 299], [(198, [100, 99, 99, 299])])
        self.check([600], [(300, [300, 299])])

    def test_without_screens(self):
        for lengths in ([299, 300], [100, 99, 99, 299], [1] * 300, [600], [200] * 2 + [198]):
            characters = sum(lengths) + len(lengths) - 1
            fitting = [width for width in range(1, 1001) if find_clash([(width, lengths)]) is None]
            self.assert_same(width_range(lengths), (1, fitting[-1]))
            self.assertEqual(fitting, list(range(1, fitting[-1] + 1)))
            self.assert_same(width_range(lengths, [(1000, [characters])]), (1, fitting[-1]))


class GuaranteeTest(PromiseCase):
    """10 (e): greater widths have fewer lines, which start later."""

    def test_lines_of_long_texts(self):
        for text in ([3, 1, 2] * 20, [1, 2, 3, 4, 5, 6, 7, 8, 9] * 3, [9, 1, 1, 30, 2, 2, 7, 1, 5]):
            rows = [line_starts(text, width) for width in range(1, 130)]
            for narrow, wide in zip(rows, rows[1:]):
                self.assertLessEqual(len(wide), len(narrow))
                self.assertTrue(all(low <= high for low, high in zip(narrow, wide)))


class ErrorsTest(PromiseCase):

    def test_wrong_lengths_come_first(self):
        for value in wrong.NO_LENGTH_LISTS:
            self.assert_raises_only(InvalidLengths, width_range, value)
            for screens in [None, [(5, [5, 2])], [], 5, True] + wrong.CLASHING:
                self.assert_raises_only(InvalidLengths, width_range, value, screens)

    def test_wrong_screens_come_next(self):
        for value in wrong.NO_SCREEN_LISTS:
            if value is not None:
                self.assert_raises_only(InvalidScreens, width_range, LENGTHS, value)
        for value in (False, 0, (), [], "", wrong.EqualToAll()):
            self.assert_raises_only(InvalidScreens, width_range, LENGTHS, value)

    def test_screens_with_another_number_of_characters(self):
        for screens in OTHER_SCREENS:
            self.assert_raises_only(InvalidScreens, width_range, LENGTHS, screens)
        for screens in wrong.CLASHING:
            self.assert_raises_only(InvalidScreens, width_range, [9], screens)
            self.assert_raises_only(InvalidScreens, width_range, [5, 1], screens)

    def test_clashes_come_last(self):
        for screens in wrong.CLASHING:
            for lengths in ([5, 2], [8], [4, 3], [1, 6]):
                self.assert_clash(screens, width_range, lengths, screens)


class ConventionsTest(PromiseCase):

    def test_arguments_are_unchanged(self):
        self.assert_unchanged(width_range, [4, 3, 5])
        self.assert_unchanged(width_range, [5, 2], [(3, [3, 1, 2])])
        self.assert_unchanged(width_range, [5, 2], [(4, [4, 3])])
        screens = [(9, [4, 3])]
        self.assert_clash(screens, width_range, [5, 2], screens)
        self.assertEqual(screens, [(9, [4, 3])])

    def test_arguments_by_name(self):
        self.assertEqual(width_range(lengths=[4, 3, 5]), (1, 7))
        self.assertEqual(width_range(screens=[(3, [3, 1, 2])], lengths=[5, 2]), (5, 7))
        self.assertEqual(width_range([5, 2], screens=None), (1, 7))


if __name__ == "__main__":
    unittest.main()
