"""Promises 8, 16 and 17, and 10 (b)."""

import unittest

import oracle
import wrong
from promise_case import PromiseCase
from wrapclues.clashes import find_clash, is_clash
from wrapclues.errors import InvalidPosition, InvalidScreens, ScreensClash
from wrapclues.positions import is_reason, pattern_of, reason_for
from wrapclues.texts import wrap_text

SCREENS = [(5, [5, 2]), (3, [3, 1, 2])]

FITTED = [case for characters in range(1, 8)
          for case in oracle.fitted_lists(characters, range(1, characters + 3), range(1, characters + 3))]
FITTED += oracle.fitted_lists(10, [2, 3, 4, 5], [3])


class PatternTest(PromiseCase):

    def test_pattern_as_all_texts_have_it(self):
        for screens, texts in FITTED:
            self.assert_same(pattern_of(screens), oracle.pattern_by_texts(texts))

    def test_three_screens(self):
        for text in oracle.all_texts(11)[::3]:
            screens = [(width, wrap_text(text, width)) for width in (7, 4, 5)]
            self.assertEqual(pattern_of(screens), oracle.pattern_by_texts(oracle.fitting_texts(screens)))

    def test_fitting_texts_are_those_that_the_reasons_allow(self):
        for screens, texts in FITTED[::5]:
            pattern = pattern_of(screens)
            allowed = [text for text in oracle.all_texts(len(pattern)) if all(
                mark == "?" or (mark == "_") == (sign == " ") for mark, sign in zip(pattern, oracle.string_of(text)))]
            self.assertEqual(allowed, texts)

    def test_edges(self):
        self.assertEqual(pattern_of([(1, [1])]), "x")
        self.assertEqual(pattern_of([(1000, [1])]), "x")
        self.assertEqual(pattern_of([(1, [2])]), "xx")
        self.assertEqual(pattern_of([(1, [600])]), "x" * 600)
        self.assertEqual(pattern_of([(600, [600])]), "x" + "?" * 598 + "x")
        self.assertEqual(pattern_of([(599, [600])]), "x" * 600)
        self.assertEqual(pattern_of([(1000, [3])]), "x?x")
        self.assertEqual(pattern_of([(3, [3, 4])]), "x?x_xxxx")
        self.assertEqual(pattern_of([(7, [5, 2])]), "x???x_xx")
        self.assertEqual(pattern_of([(1, [1] * 300)]), "x_" * 299 + "x")

    def test_forty_screens_of_a_long_text(self):
        text = [1, 2, 3, 4, 5, 6, 7, 8, 9] * 10
        screens = [(width, wrap_text(text, width)) for width in range(1, 41)]
        self.assertEqual(pattern_of(screens), oracle.string_of(text).replace(" ", "_"))
        widths = range(100, 140)
        pattern = pattern_of([(width, wrap_text(text, width)) for width in widths])
        ends = [end for width in widths for _, end in oracle.lines_of(text, width)]
        self.assertEqual([at for at, mark in enumerate(pattern) if mark == "_"], sorted(set(ends) - {len(pattern)}))


class ReasonTest(PromiseCase):

    def test_reason_is_one_and_none_exactly_at_free_positions(self):
        for screens, texts in FITTED:
            pattern = oracle.pattern_by_texts(texts)
            for position, mark in enumerate(pattern):
                reason = reason_for(screens, position)
                self.assertEqual(reason is None, mark == "?", (screens, position))
                if reason is not None:
                    self.assertIn(reason, oracle.reasons_of(screens, position))
                    self.assertIsInstance(reason, tuple)
                    self.assertEqual(reason[0] == "break", mark == "_")
                    self.assertTrue(all(type(number) is int for number in reason[1:]))
                    self.assertIs(is_reason(screens, position, reason), True)

    def test_exactly_the_reasons(self):
        for screens, texts in FITTED[::4]:
            candidates = oracle.reason_candidates(screens)
            for position in range(oracle.characters_in(screens)):
                reasons = oracle.reasons_of(screens, position)
                for value in candidates:
                    self.assertIs(is_reason(screens, position, value), value in reasons, (screens, position, value))

    def test_exactly_the_reasons_of_greater_screens(self):
        for text in ([3, 1, 2, 9, 1, 1, 4, 2], [1] * 12, [20], [7, 1, 7, 1, 7]):
            screens = [(width, wrap_text(text, width)) for width in (1, 4, 9, 11, 1000)]
            candidates = oracle.reason_candidates(screens)
            for position in range(oracle.characters_in(screens)):
                reasons = oracle.reasons_of(screens, position)
                self.assertIn(reason_for(screens, position), reasons or {None})
                for value in candidates:
                    self.assertIs(is_reason(screens, position, value), value in reasons, (screens, position, value))

    def test_first_and_last_position(self):
        self.assertEqual(reason_for([(7, [5, 2])], 0), ("first",))
        self.assertIn(reason_for([(7, [5, 2])], 7), [("room", 0, 0), ("beside", 0, 1)])
        self.assertEqual(reason_for([(1000, [8])], 7), ("beside", 0, 0))
        self.assertEqual(reason_for([(1, [1])], 0), ("first",))
        self.assertIs(is_reason([(1, [1])], 0, ("beside", 0, 0)), True)
        self.assertIs(is_reason([(1, [1])], 0, ("long", 0, 0)), False)
        self.assertIs(is_reason([(1, [2])], 0, ("long", 0, 0)), True)
        self.assertIs(is_reason([(3, [3, 4])], 4, ("long", 0, 1)), True)
        self.assertIs(is_reason([(3, [3, 4])], 7, ("long", 0, 1)), True)
        self.assertIs(is_reason([(7, [5, 2])], 7, ("room", 0, 0)), True)
        self.assertIs(is_reason([(6, [5, 2])], 7, ("room", 0, 0)), False)
        self.assertIs(is_reason([(6, [5, 2])], 6, ("room", 0, 0)), True)
        self.assertIs(is_reason([(1000, [8])], 7, ("room", 0, 0)), False)

    def test_wrong_reasons(self):
        reason = ("break", 0, 0)
        self.assertIs(is_reason(SCREENS, 5, reason), True)
        values = [None, True, "break", 0, [], (), list(reason), reason[:2], reason[:1], reason + (0,), (reason,),
                  [reason], {reason: 1}, ("Break", 0, 0), (b"break", 0, 0), (None, 0, 0), (0, 0, 0), ("", 0, 0),
                  (["break"], 0, 0), ("first",), ("first", 0, 0), "first", ["first"], ("room", 0, 0, 0, 1), object(),
                  int, wrong.nested(40, "break"), (wrong.nested(39, "break"), 0, 0), ("bre", "ak", 0),
                  (wrong.EqualToAll(), 0, 0), wrong.EqualToAll()]
        for at in (1, 2):
            for number in wrong.NO_INTEGERS + [-1, -2, 2, 10 ** 160, -10 ** 160]:
                values.append(reason[:at] + (number,) + reason[at + 1:])
        for value in values:
            self.assertIs(is_reason(SCREENS, 5, value), False, repr(value)[:100])
        for value in ["first", ["first"], (b"first",), ("First",), ("first", 0), ("first", 0, 0), (("first",),),
                      (None,), ("",), {"first"}, ("beside",), (wrong.EqualToAll(),), wrong.EqualToAll()]:
            self.assertIs(is_reason(SCREENS, 0, value), False, repr(value)[:100])
        self.assertIs(is_reason(SCREENS, 0, ("first",)), True)

    def test_wrong_positions(self):
        for value in wrong.NO_INTEGERS + [-1, 8, 9, -8, 600, 10 ** 160, -10 ** 160]:
            self.assert_raises_only(InvalidPosition, reason_for, SCREENS, value)
            self.assert_raises_only(InvalidPosition, is_reason, SCREENS, value, ("first",))
            self.assert_raises_only(InvalidPosition, is_reason, SCREENS, value, None)
        self.assert_raises_only(InvalidPosition, reason_for, [(1, [1])], 1)
        self.assert_raises_only(InvalidPosition, reason_for, [(1, [600])], 600)
        self.assertEqual(reason_for([(1, [600])], 599)[1:], (0, 0))


class ErrorsTest(PromiseCase):

    def test_wrong_screens_come_first(self):
        for value in wrong.NO_SCREEN_LISTS:
            self.assert_raises_only(InvalidScreens, pattern_of, value)
            for position in (0, -1, None):
                self.assert_raises_only(InvalidScreens, reason_for, value, position)
                self.assert_raises_only(InvalidScreens, is_reason, value, position, ("first",))

    def test_clashes_come_before_positions(self):
        for screens in wrong.CLASHING:
            errors = [self.assert_raises_only(ScreensClash, pattern_of, screens)]
            for position in (0, -1, 8, None, True):
                errors.append(self.assert_raises_only(ScreensClash, reason_for, screens, position))
                errors.append(self.assert_raises_only(ScreensClash, is_reason, screens, position, None))
            for error in errors:
                self.assertIs(is_clash(screens, error.clash), True)
                self.assertIn(error.clash, oracle.clashes_of(screens))

    def test_all_clashing_pairs_raise(self):
        screens = oracle.all_screens(5, [1, 2, 3, 4, 5, 6])
        for first in screens:
            for second in screens:
                if oracle.clashes_of([first, second]):
                    self.assert_raises_only(ScreensClash, pattern_of, [first, second])
                else:
                    self.assertIsNone(find_clash([first, second]))
                    self.assertEqual(len(pattern_of([first, second])), 5)


class ConventionsTest(PromiseCase):

    def test_arguments_are_unchanged(self):
        self.assert_unchanged(pattern_of, SCREENS)
        for position in range(8):
            self.assert_unchanged(reason_for, SCREENS, position)
            self.assert_unchanged(is_reason, SCREENS, position, ("break", 0, 0))

    def test_errors_leave_the_arguments_unchanged(self):
        screens = [(5, [5, 2]), (4, [4, 3])]
        self.assert_raises_only(ScreensClash, pattern_of, screens)
        self.assertEqual(screens, [(5, [5, 2]), (4, [4, 3])])

    def test_arguments_by_name(self):
        self.assertEqual(pattern_of(screens=SCREENS), "x?x_x_xx")
        self.assertEqual(reason_for(position=0, screens=SCREENS), ("first",))
        self.assertEqual(is_reason(value=("first",), position=0, screens=SCREENS), True)


if __name__ == "__main__":
    unittest.main()
