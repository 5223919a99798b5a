"""Promises 6, 7, 14 and 15, and 10 (a)."""

import unittest

import oracle
import wrong
from promise_case import PromiseCase
from wrapclues.clashes import are_screens, find_clash, is_clash, is_screen, screen_of
from wrapclues.errors import InvalidScreens, InvalidText, InvalidWidth
from wrapclues.texts import wrap_text


def shown_by_one(screens, shown):
    """True if one text shows all screens; `shown` maps a screen to the numbers of its texts."""
    common = None
    for width, lengths in screens:
        texts = shown.get((width, tuple(lengths)), set())
        common = texts if common is None else common & texts
    return bool(common)


def texts_by_screen(characters, widths):
    shown = {}
    for number, text in enumerate(oracle.all_texts(characters)):
        for width in widths:
            shown.setdefault((width, tuple(oracle.wrap_of(text, width))), set()).add(number)
    return shown


class ScreensTest(PromiseCase):

    def test_screens_of_all_widths_and_lengths(self):
        for screen in oracle.all_screens(6, [1, 2, 5, 6, 7, 999, 1000]):
            self.assertIs(is_screen(screen), True)
            self.assertIs(are_screens([screen]), True)
            self.assertIs(are_screens([screen, (1, [6]), screen]), True)
            self.assertIs(are_screens([screen, (1, [5])]), False)

    def test_a_screen_need_not_be_shown_by_any_text(self):
        self.assertIs(is_screen((1000, [1, 1])), True)
        self.assertIs(are_screens([(1000, [1, 1]), (1, [3])]), True)

    def test_edges(self):
        self.assertIs(is_screen((1, [600])), True)
        self.assertIs(is_screen((1000, [1] * 300)), True)
        self.assertIs(is_screen((1000, [1] * 299 + [2])), True)
        self.assertIs(is_screen((1000, [1] * 299 + [3])), False)
        self.assertIs(is_screen((5, [601])), False)
        self.assertIs(is_screen((5, [300, 300])), False)
        self.assertIs(is_screen((5, [300, 299])), True)
        self.assertIs(is_screen((0, [5])), False)
        self.assertIs(is_screen((1001, [5])), False)
        self.assertIs(are_screens([(5, [5, 2]), (5, [5, 1])]), False)
        self.assertIs(are_screens([(5, [5, 2]), (5, [5, 1]), (5, [5, 2])]), False)
        self.assertIs(are_screens([(1, [600]), (1000, [300, 299])]), True)

    def test_more_than_forty_screens_and_equal_ones(self):
        self.assertIs(are_screens([(5, [5, 2])] * 41), True)
        self.assertIs(are_screens([(5, [5, 2])] * 41 + [(5, [5])]), False)

    def test_wrong_values(self):
        for value in wrong.NO_SCREENS:
            self.assertIs(is_screen(value), False, repr(value)[:100])
        for value in wrong.NO_SCREEN_LISTS:
            self.assertIs(are_screens(value), False, repr(value)[:100])


class ScreenOfTest(PromiseCase):

    def test_short_texts(self):
        for text in oracle.all_texts(7):
            for width in (1, 2, 3, 4, 5, 6, 7, 8, 1000):
                self.assert_same(screen_of(text, width), (width, oracle.wrap_of(text, width)))

    def test_wrong_values(self):
        for value in wrong.NO_TEXTS:
            self.assert_raises_only(InvalidText, screen_of, value, 5)
            self.assert_raises_only(InvalidText, screen_of, value, 0)
        for value in wrong.NO_WIDTHS:
            self.assert_raises_only(InvalidWidth, screen_of, [3, 1, 2], value)


class FindClashTest(PromiseCase):

    def check(self, screens, shown):
        clash = find_clash(screens)
        if shown:
            self.assertIsNone(clash, screens)
        else:
            self.assertIn(clash, oracle.clashes_of(screens), screens)
            self.assertIsInstance(clash, tuple)
            self.assertTrue(all(type(number) is int for number in clash[1:]))
            self.assertIs(is_clash(screens, clash), True)

    def test_single_screens(self):
        for characters in range(1, 9):
            widths = list(range(1, characters + 3)) + [1000]
            shown = texts_by_screen(characters, widths)
            for screen in oracle.all_screens(characters, widths):
                self.check([screen], shown_by_one([screen], shown))

    def test_pairs_of_screens(self):
        for characters in range(1, 7):
            widths = list(range(1, characters + 2))
            shown = texts_by_screen(characters, widths)
            screens = oracle.all_screens(characters, widths)
            for first in screens:
                for second in screens:
                    self.check([first, second], shown_by_one([first, second], shown))

    def test_pairs_at_one_width_and_the_next(self):
        widths = [3, 4]
        shown = texts_by_screen(9, widths)
        screens = oracle.all_screens(9, widths)
        for first in screens:
            for second in screens:
                self.check([first, second], shown_by_one([first, second], shown))

    def test_three_screens(self):
        widths = [1, 2, 3, 4, 5, 6]
        shown = texts_by_screen(5, widths)
        screens = oracle.all_screens(5, widths)
        for first in screens:
            for second in screens:
                for third in screens[::2]:
                    triple = [first, second, third]
                    self.check(triple, shown_by_one(triple, shown))

    def test_a_room_that_reaches_the_end(self):
        self.assertEqual(find_clash([(8, [5, 2])]), ("room", 0, 0, 0, 1))
        self.assertEqual(find_clash([(1000, [5, 2])]), ("room", 0, 0, 0, 1))
        self.assertIsNone(find_clash([(7, [5, 2])]))
        self.assertEqual(find_clash([(1000, [1] * 300)])[0], "room")

    def test_a_line_that_ends_at_the_end_has_no_room(self):
        self.assertIsNone(find_clash([(1000, [8])]))
        self.assertIsNone(find_clash([(1000, [600])]))
        self.assertIs(is_clash([(1000, [8])], ("room", 0, 0, 0, 0)), False)

    def test_a_long_last_line(self):
        self.assertIsNone(find_clash([(1, [600])]))
        self.assertIsNone(find_clash([(3, [3, 4])]))
        self.assertEqual(find_clash([(3, [3, 4]), (5, [5, 2])]), ("long", 0, 1, 1, 0))

    def test_ends_side_by_side(self):
        screens = [(4, [4, 3]), (5, [5, 2])]
        self.assertEqual(find_clash(screens), ("beside", 0, 0, 1, 0))
        self.assertIs(is_clash(screens, ("beside", 0, 0, 1, 0)), True)
        self.assertIs(is_clash(screens, ("beside", 1, 0, 0, 0)), False)
        self.assertEqual(find_clash(screens[::-1]), ("beside", 1, 0, 0, 0))

    def test_screens_of_long_texts_do_not_clash(self):
        for text in ([1] * 300, [3, 1, 2] * 60, [1, 2, 3, 4, 5, 6, 7, 8, 9] * 10, [600], [200, 1, 1, 300, 1, 92]):
            screens = [(width, wrap_text(text, width)) for width in list(range(1, 40)) + [1000]]
            self.assertIsNone(find_clash(screens))

    def test_one_wrong_screen_among_many(self):
        text = [1, 2, 3, 4, 5, 6, 7, 8, 9] * 4
        screens = [(width, wrap_text(text, width)) for width in range(1, 30)]
        for at in (0, 7, 28):
            changed = [(width, list(lengths)) for width, lengths in screens]
            changed[at][1][2] += 1
            changed[at][1][3] -= 1
            if changed[at][1][3] == 0:
                continue
            clash = find_clash(changed)
            self.assertIn(clash, oracle.clashes_of(changed))
            self.assertIs(is_clash(changed, clash), True)

    def test_wrong_values(self):
        for value in wrong.NO_SCREEN_LISTS:
            self.assert_raises_only(InvalidScreens, find_clash, value)
            self.assert_raises_only(InvalidScreens, is_clash, value, ("room", 0, 0, 0, 0))
            self.assert_raises_only(InvalidScreens, is_clash, value, None)


class IsClashTest(PromiseCase):

    def check_all_candidates(self, screens):
        clashes = oracle.clashes_of(screens)
        for value in oracle.clash_candidates(screens):
            self.assertIs(is_clash(screens, value), value in clashes, (screens, value))

    def test_exactly_the_clashes_of_single_screens(self):
        for characters in range(1, 7):
            for screen in oracle.all_screens(characters, [1, 2, 3, 4, 6, 7, 1000]):
                self.check_all_candidates([screen])

    def test_exactly_the_clashes_of_pairs(self):
        for characters in range(1, 6):
            screens = oracle.all_screens(characters, [1, 2, 3, characters])
            for first in screens:
                for second in screens:
                    self.check_all_candidates([first, second])

    def test_exactly_the_clashes_of_greater_screens(self):
        self.check_all_candidates([(9, [4, 3, 9, 2]), (5, [3, 4, 5, 4, 1]), (20, [21]), (6, [9, 11])])
        self.check_all_candidates([(1000, [4, 16]), (1, [19, 1]), (4, [4, 4, 4, 6]), (2, [1, 1, 1, 1, 13])])

    def test_wrong_values(self):
        screens = [(9, [4, 3]), (3, [3, 4])]
        clash = ("room", 0, 0, 0, 1)
        self.assertIs(is_clash(screens, clash), True)
        values = [None, True, "room", 0, [], (), list(clash), clash[:4], clash + (0,), (clash,), [clash], {clash: 1},
                  ("Room",) + clash[1:], (b"room",) + clash[1:], (None,) + clash[1:], (0,) + clash[1:],
                  ("",) + clash[1:], (["room"],) + clash[1:], ("first",), ("break", 0, 0), frozenset(clash), object(),
                  int, wrong.nested(40, "room"), (wrong.nested(39, "room"),) + clash[1:], ("roo", "m", 0, 0, 1),
                  (wrong.EqualToAll(),) + clash[1:], wrong.EqualToAll()]
        for at in range(1, 5):
            for number in [value for value in wrong.NO_INTEGERS] + [-1, -2, 2, 10 ** 160, -10 ** 160]:
                values.append(clash[:at] + (number,) + clash[at + 1:])
        for value in values:
            self.assertIs(is_clash(screens, value), False, repr(value)[:100])

    def test_true_and_false_are_no_numbers(self):
        screens = [(9, [4, 3])]
        self.assertIs(is_clash(screens, ("room", 0, 0, 0, 1)), True)
        self.assertIs(is_clash(screens, ("room", 0, 0, 0, True)), False)
        self.assertIs(is_clash(screens, ("room", False, 0, 0, 1)), False)
        self.assertIs(is_clash(screens, ("room", 0, False, 0, 1)), False)
        self.assertIs(is_clash(screens, ("room", 0, 0, False, 1)), False)

    def test_numbers_do_not_count_from_the_end(self):
        screens = [(9, [4, 3])]
        self.assertIs(is_clash(screens, ("room", -1, 0, 0, 1)), False)
        self.assertIs(is_clash(screens, ("room", 0, -2, 0, 1)), False)
        self.assertIs(is_clash(screens, ("room", 0, 0, -1, 1)), False)
        self.assertIs(is_clash(screens, ("room", 0, 0, 0, -1)), False)


class ConventionsTest(PromiseCase):

    def test_arguments_are_unchanged(self):
        for screens in ([(9, [4, 3])], [(5, [5, 2]), (4, [4, 3])], [(5, [5, 2]), (3, [3, 1, 2])]):
            self.assert_unchanged(is_screen, screens[0])
            self.assert_unchanged(are_screens, screens)
            self.assert_unchanged(find_clash, screens)
            self.assert_unchanged(is_clash, screens, ("room", 0, 0, 0, 1))
        self.assert_unchanged(screen_of, [3, 1, 2], 5)

    def test_a_returned_screen_is_new(self):
        text = [3, 1, 2]
        screen = screen_of(text, 1)
        screen[1].append(7)
        self.assertEqual([text, screen_of(text, 1)], [[3, 1, 2], (1, [3, 1, 2])])

    def test_arguments_by_name(self):
        self.assertEqual(is_screen(value=(5, [5, 2])), True)
        self.assertEqual(are_screens(value=[(5, [5, 2])]), True)
        self.assertEqual(screen_of(width=5, text=[3, 1, 2]), (5, [5, 2]))
        self.assertEqual(find_clash(screens=[(5, [5, 2])]), None)
        self.assertEqual(is_clash(value=("room", 0, 0, 0, 1), screens=[(9, [4, 3])]), True)


if __name__ == "__main__":
    unittest.main()
