"""Promises 20 to 22, and 10 (d)."""

import unittest

import oracle
import wrong
from promise_case import PromiseCase, screens_at
from wrapclues.clashes import find_clash
from wrapclues.errors import InvalidNumber, InvalidScreens, InvalidWidth, NotFitting
from wrapclues.fitting import count_texts, nth_text
from wrapclues.forecasts import certain_breaks, count_wraps, fewest_lines, most_lines, nth_wrap, possible_breaks
from wrapclues.forecasts import wrap_index
from wrapclues.texts import wrap_text

SCREENS = [(5, [5, 2])]
WITHOUT_MORE = [fewest_lines, most_lines, possible_breaks, certain_breaks, count_wraps]

FITTED = [case for characters in range(1, 7)
          for case in oracle.fitted_lists(characters, range(1, characters + 3), range(1, characters + 3))]
FITTED += oracle.fitted_lists(7, range(1, 10), [2, 4, 7])
FITTED += oracle.fitted_lists(10, [2, 3, 4, 5], [3])
FITTED += oracle.fitted_lists(11, [1, 2, 3, 4, 5, 6, 7, 10, 11], [])


def widths_for(characters):
    return list(range(1, characters + 3)) + [1000]


class ShortTest(PromiseCase):
    """Each list of screens with all texts that fit them, at each width."""

    def check_lines_and_breaks(self, screens, width, wraps):
        counts = [len(wrap) for wrap in wraps]
        self.assert_same(fewest_lines(screens, width), min(counts))
        self.assert_same(most_lines(screens, width), max(counts))
        breaks = [set(oracle.breaks_in(wrap)) for wrap in wraps]
        self.assert_same(possible_breaks(screens, width), sorted(set.union(*breaks)))
        self.assert_same(certain_breaks(screens, width), sorted(set.intersection(*breaks)))

    def check_numbers(self, screens, width, wraps):
        self.assert_same(count_wraps(screens, width), len(wraps))
        for number, wrap in enumerate(wraps):
            self.assert_same(nth_wrap(screens, width, number), wrap)
            self.assert_same(wrap_index(screens, width, wrap), number)
        for number in (-1, len(wraps), len(wraps) + 1):
            self.assert_raises_only(InvalidNumber, nth_wrap, screens, width, number)

    def check(self, screens, texts, widths):
        for width in widths:
            wraps = oracle.wraps_of(texts, width)
            self.check_lines_and_breaks(screens, width, wraps)
            self.check_numbers(screens, width, wraps)

    def test_one_and_two_screens(self):
        for screens, texts in FITTED:
            self.check(screens, texts, widths_for(oracle.characters_in(screens)))

    def test_three_screens(self):
        for text in oracle.all_texts(11)[::7]:
            for widths in ((4, 6, 7), (7, 3, 9)):
                screens = screens_at(text, widths)
                self.check(screens, oracle.fitting_texts(screens), widths_for(11))

    def test_all_texts(self):
        for characters in range(1, 14):
            self.check([(1000, [characters])], oracle.all_texts(characters), widths_for(characters))

    def test_one_screen_of_middling_texts(self):
        texts = oracle.all_texts(15)
        for width in (4, 7, 9, 12):
            for text in texts[::101]:
                screens = screens_at(text, [width])
                fitting = [other for other in texts if oracle.wrap_of(other, width) == screens[0][1]]
                self.check(screens, fitting, widths_for(15))

    def test_at_the_widths_of_the_screens_themselves(self):
        for screens, _ in FITTED:
            for width, lengths in screens:
                self.assertEqual([fewest_lines(screens, width), most_lines(screens, width)], [len(lengths)] * 2)
                self.assertEqual(possible_breaks(screens, width), oracle.breaks_in(lengths))
                self.assertEqual(certain_breaks(screens, width), oracle.breaks_in(lengths))
                self.assertEqual(count_wraps(screens, width), 1)
                self.assertEqual(nth_wrap(screens, width, 0), lengths)
                self.assertEqual(wrap_index(screens, width, lengths), 0)


class GuaranteeTest(PromiseCase):
    """10 (d): a list is a wrap of some fitting text exactly if it adds no clash."""

    def check(self, screens, texts, width):
        characters = oracle.characters_in(screens)
        wraps = [oracle.wrap_of(text, width) for text in texts]
        for lengths in oracle.all_texts(characters):
            fitting = find_clash(screens + [(width, lengths)]) is None
            self.assertEqual(fitting, lengths in wraps)
            if fitting:
                self.assertEqual(nth_wrap(screens, width, wrap_index(screens, width, lengths)), lengths)
            else:
                self.assert_raises_only(NotFitting, wrap_index, screens, width, lengths)

    def test_short_screens(self):
        for screens, texts in FITTED[::7]:
            for width in widths_for(oracle.characters_in(screens)):
                self.check(screens, texts, width)


class LineByLine:
    """All wraps at a width, of texts too long to be listed: each line with the rooms of point 7."""

    def __init__(self, screens, width):
        self.pattern = oracle.pattern_by_reasons(screens)
        self.characters = len(self.pattern)
        self.width = width
        self.known = {}

    def next_ends(self, start, room_end):
        return [end for end in range(max(start, room_end) + 1, self.characters + 1) if self.can_be(start, end)]

    def can_be(self, start, end):
        if end < self.characters and self.pattern[end] == "x":
            return False
        if end - start > self.width:
            return "_" not in self.pattern[start:end]
        if end == self.characters:
            return True
        room = oracle.room_of(self.width, start, end, self.characters)
        return self.characters not in room and not any(self.pattern[at] == "_" for at in room)

    def counts(self, start=0, room_end=0, skipped=None):
        """The number of wraps from there on in which no line ends at the skipped position,
        by their numbers of lines."""
        key = (start, room_end, skipped)
        if key not in self.known:
            found = {}
            for end in self.next_ends(start, room_end):
                rest = {0: 1} if end == self.characters else self.counts(end + 1, start + self.width, skipped)
                for lines, count in rest.items():
                    if end != skipped:
                        found[lines + 1] = found.get(lines + 1, 0) + count
            self.known[key] = found
        return self.known[key]


class MiddlingTest(PromiseCase):

    def check(self, screens, width):
        wraps = LineByLine(screens, width)
        by_lines = wraps.counts()
        total = sum(by_lines.values())
        self.assert_same(count_wraps(screens, width), total)
        self.assert_same(fewest_lines(screens, width), min(by_lines))
        self.assert_same(most_lines(screens, width), max(by_lines))
        without = [sum(wraps.counts(skipped=at).values()) for at in range(wraps.characters)]
        self.assert_same(possible_breaks(screens, width), [at for at, count in enumerate(without) if count < total])
        self.assert_same(certain_breaks(screens, width), [at for at, count in enumerate(without) if count == 0])

    def test_against_the_lines_one_by_one(self):
        text = [3, 1, 2, 9, 1, 1, 4, 2, 5]
        for screens in ([(1000, [30])], [(30, [30])], [(12, [11, 18])], screens_at(text, [17]), screens_at(text, [8]),
                        screens_at(text, [25]), screens_at(text, [14, 20, 6]), screens_at([1] * 16, [15])):
            for width in [1, 2, 3, 4, 5, 7, 8, 11, 13, 18, 24, 29, 30, 31, 35, 36, 37, 1000]:
                self.check(screens, width)

    def test_the_oracle_agrees_with_all_short_texts(self):
        for screens, texts in FITTED[::40]:
            for width in widths_for(oracle.characters_in(screens)):
                wraps = oracle.wraps_of(texts, width)
                by_lines = {}
                for wrap in wraps:
                    by_lines[len(wrap)] = by_lines.get(len(wrap), 0) + 1
                self.assertEqual(LineByLine(screens, width).counts(), by_lines)


class LongTest(PromiseCase):

    def numbers(self, count):
        marks = [0, 1, count - 1] + [count * part // 3 for part in range(1, 3)]
        return sorted({number for number in marks if 0 <= number < count})

    def check(self, screens, width):
        fewest, most = fewest_lines(screens, width), most_lines(screens, width)
        possible, certain = possible_breaks(screens, width), certain_breaks(screens, width)
        self.assertEqual(sorted(set(possible) | set(certain)), possible)
        self.assertEqual(certain, sorted(set(certain)))
        count = count_wraps(screens, width)
        wraps = []
        for number in self.numbers(count):
            wrap = nth_wrap(screens, width, number)
            self.assert_same(wrap_index(screens, width, wrap), number)
            self.assertIsNone(find_clash(screens + [(width, wrap)]))
            wraps.append(wrap)
        self.assertEqual(wraps, sorted(wraps))
        self.assert_raises_only(InvalidNumber, nth_wrap, screens, width, count)
        for number in self.numbers(count_texts(screens)):
            wrap = wrap_text(nth_text(screens, number), width)
            self.assertEqual(nth_wrap(screens, width, wrap_index(screens, width, wrap)), wrap)
            wraps.append(wrap)
        for wrap in wraps:
            self.assertTrue(fewest <= len(wrap) <= most)
            breaks = set(oracle.breaks_in(wrap))
            self.assertTrue(set(certain) <= breaks <= set(possible))

    def test_one_screen_of_600_characters(self):
        text = [3, 1, 2] * 66 + [6]
        for screens in ([(1000, [600])], [(299, [299, 300])], screens_at(text, [90]), screens_at(text, [13]),
                        screens_at([50, 1, 1, 90, 7, 200, 1, 1, 1, 3, 20, 100, 41, 71], [300])):
            self.assertEqual(oracle.characters_in(screens), 600)
            for width in (1, 12, 91, 599):
                self.check(screens, width)

    def test_many_screens_of_600_characters(self):
        text = [3, 1, 2] * 66 + [6]
        self.check(screens_at(text, range(60, 100)), 17)
        self.check(screens_at(text, range(60, 100)), 130)

    def test_all_texts_of_600_characters(self):
        screens = [(1000, [600])]
        inner = list(range(1, 599))
        for width in (1, 2):
            # No line has two words, so that each text has a wrap of its own.
            self.assertEqual(count_wraps(screens, width), oracle.fibonacci(600))
            self.assertEqual([fewest_lines(screens, width), most_lines(screens, width)], [1, 300])
            self.assertEqual(possible_breaks(screens, width), inner)
            self.assertEqual(certain_breaks(screens, width), [])
            self.assertEqual(nth_wrap(screens, width, 0), [1] * 299 + [2])
            self.assertEqual(nth_wrap(screens, width, oracle.fibonacci(600) - 1), [600])
        self.assertEqual(count_wraps(screens, 599), 599)
        self.assertEqual([fewest_lines(screens, 599), most_lines(screens, 599)], [1, 2])
        self.assertEqual(possible_breaks(screens, 599), inner)
        self.assertEqual([nth_wrap(screens, 599, number) for number in (0, 1, 597, 598)],
                         [[1, 598], [2, 597], [598, 1], [600]])
        for width in (600, 601, 1000):
            self.assertEqual(count_wraps(screens, width), 1)
            self.assertEqual([fewest_lines(screens, width), most_lines(screens, width)], [1, 1])
            self.assertEqual([possible_breaks(screens, width), certain_breaks(screens, width)], [[], []])
            self.assertEqual(nth_wrap(screens, width, 0), [600])

    def test_screens_that_one_text_alone_fits(self):
        text = [3, 1, 2] * 66 + [6]
        screens = screens_at(text, [1, 9])
        for width in (1, 2, 5, 17, 90, 300, 599, 600, 1000):
            wrap = wrap_text(text, width)
            self.assertEqual(count_wraps(screens, width), 1)
            self.assertEqual(nth_wrap(screens, width, 0), wrap)
            self.assertEqual([fewest_lines(screens, width), most_lines(screens, width)], [len(wrap)] * 2)
            self.assertEqual(possible_breaks(screens, width), oracle.breaks_in(wrap))
            self.assertEqual(certain_breaks(screens, width), oracle.breaks_in(wrap))


class ErrorsTest(PromiseCase):

    def test_wrong_screens_come_first(self):
        for value in wrong.NO_SCREEN_LISTS:
            for width in (3, 0, None):
                for function in WITHOUT_MORE:
                    self.assert_raises_only(InvalidScreens, function, value, width)
                for number in (0, -1, None):
                    self.assert_raises_only(InvalidScreens, nth_wrap, value, width, number)
                for lengths in ([5, 2], [9], None):
                    self.assert_raises_only(InvalidScreens, wrap_index, value, width, lengths)

    def test_clashes_come_next(self):
        for screens in wrong.CLASHING:
            for width in (3, 0, 1001, None, True):
                for function in WITHOUT_MORE:
                    self.assert_clash(screens, function, screens, width)
                for number in (0, -1, None):
                    self.assert_clash(screens, nth_wrap, screens, width, number)
                for lengths in ([5, 2], [4, 3], [9], None):
                    self.assert_clash(screens, wrap_index, screens, width, lengths)

    def test_widths_come_next(self):
        for width in wrong.NO_WIDTHS:
            for function in WITHOUT_MORE:
                self.assert_raises_only(InvalidWidth, function, SCREENS, width)
            for number in (0, -1, None):
                self.assert_raises_only(InvalidWidth, nth_wrap, SCREENS, width, number)
            for lengths in ([5, 2], [4, 3], [9], None):
                self.assert_raises_only(InvalidWidth, wrap_index, SCREENS, width, lengths)

    def test_wrong_numbers(self):
        for value in wrong.NO_INTEGERS + [-1, -4, 4, 5, 10 ** 160, -10 ** 160]:
            self.assert_raises_only(InvalidNumber, nth_wrap, SCREENS, 3, value)

    def test_wrong_lengths(self):
        for value in wrong.NO_LENGTH_LISTS:
            self.assert_raises_only(NotFitting, wrap_index, SCREENS, 3, value)
        for value in ([8], [4, 3], [1, 1, 1, 2], [3, 1, 3], [3, 1, 2, 1], [3, 1], [6, 1], [3, 4], (3, 1, 2), [3, True, 2],
                      [600], [1], [9]):
            self.assert_raises_only(NotFitting, wrap_index, SCREENS, 3, value)
        self.assertEqual([wrap_index(SCREENS, 3, value) for value in ([1, 3, 2], [2, 2, 2], [3, 1, 2], [5, 2])],
                         [0, 1, 2, 3])


class ConventionsTest(PromiseCase):

    def test_arguments_are_unchanged(self):
        for width in (1, 3, 5, 8):
            for function in WITHOUT_MORE:
                self.assert_unchanged(function, SCREENS, width)
            self.assert_unchanged(nth_wrap, SCREENS, width, 0)
            self.assert_unchanged(wrap_index, SCREENS, width, nth_wrap(SCREENS, width, 0))

    def test_errors_leave_the_arguments_unchanged(self):
        screens, lengths = [(5, [5, 2])], [4, 3]
        self.assert_raises_only(NotFitting, wrap_index, screens, 3, lengths)
        self.assert_raises_only(InvalidNumber, nth_wrap, screens, 3, 4)
        self.assertEqual([screens, lengths], [[(5, [5, 2])], [4, 3]])

    def test_returned_lists_are_new(self):
        for function in (possible_breaks, certain_breaks):
            self.assert_new(function, SCREENS, 3)
            self.assert_new(function, SCREENS, 5)
        for number in range(4):
            self.assert_new(nth_wrap, SCREENS, 3, number)
        screens = [(5, [5, 2])]
        nth_wrap(screens, 5, 0).append(7)
        self.assertEqual(screens, [(5, [5, 2])])

    def test_arguments_by_name(self):
        self.assertEqual(fewest_lines(width=3, screens=SCREENS), 2)
        self.assertEqual(most_lines(width=3, screens=SCREENS), 3)
        self.assertEqual(possible_breaks(width=3, screens=SCREENS), [1, 2, 3, 5])
        self.assertEqual(certain_breaks(width=3, screens=SCREENS), [5])
        self.assertEqual(count_wraps(width=3, screens=SCREENS), 4)
        self.assertEqual(nth_wrap(number=1, width=3, screens=SCREENS), [2, 2, 2])
        self.assertEqual(wrap_index(lengths=[2, 2, 2], width=3, screens=SCREENS), 1)


if __name__ == "__main__":
    unittest.main()
