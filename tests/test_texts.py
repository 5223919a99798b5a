"""Promises 4, 5, 11, 12 and 13, and what 10 (e) says of one text at two widths."""

import unittest

import oracle
import wrong
from promise_case import PromiseCase
from wrapclues.errors import InvalidNumber, InvalidText, InvalidWidth
from wrapclues.texts import character_count, is_text, least_width, line_starts, spaces_of, text_of
from wrapclues.texts import words_of, wrap_string, wrap_text

SHORT_TEXTS = [text for characters in range(1, 11) for text in oracle.all_texts(characters)]
LONG_TEXTS = [[600], [1] * 300, [1] * 299 + [2], [2] * 200, [299, 300], [300, 299], [1, 598], [598, 1],
              [3, 1, 2] * 60, [1, 2, 3, 4, 5, 6, 7, 8, 9] * 10, [50, 1, 1, 90, 7, 200, 1, 1, 1, 3, 20]]
MANY_WIDTHS = [1, 2, 3, 4, 5, 7, 10, 19, 20, 21, 60, 90, 299, 300, 301, 598, 599, 600, 601, 999, 1000]


class IsTextTest(PromiseCase):

    def test_texts(self):
        for text in SHORT_TEXTS + [[1], [600], [1] * 300, [299, 300], [1] * 299 + [2]]:
            self.assertIs(is_text(text), True, text)

    def test_600_and_601_characters(self):
        self.assertIs(is_text([600]), True)
        self.assertIs(is_text([601]), False)
        self.assertIs(is_text([300, 299]), True)
        self.assertIs(is_text([300, 300]), False)
        self.assertIs(is_text([1] * 299 + [2]), True)
        self.assertIs(is_text([1] * 299 + [3]), False)
        self.assertIs(is_text([1] * 300), True)
        self.assertIs(is_text([1] * 301), False)
        self.assertIs(is_text([1] * 400), False)

    def test_other_values(self):
        for value in wrong.NO_TEXTS:
            self.assertIs(is_text(value), False, repr(value)[:100])


class CharactersTest(PromiseCase):

    def test_count_and_spaces(self):
        for text in SHORT_TEXTS + LONG_TEXTS:
            self.assert_same(character_count(text), len(oracle.string_of(text)))
            self.assert_same(spaces_of(text), oracle.spaces_in(text))

    def test_edges(self):
        self.assertEqual([character_count([600]), spaces_of([600])], [600, []])
        self.assertEqual([character_count([1]), spaces_of([1])], [1, []])
        self.assertEqual([character_count([1, 598]), spaces_of([1, 598])], [600, [1]])
        self.assertEqual(spaces_of([598, 1]), [598])

    def test_wrong_values(self):
        for value in wrong.NO_TEXTS:
            self.assert_raises_only(InvalidText, character_count, value)
            self.assert_raises_only(InvalidText, spaces_of, value)


class TextOfTest(PromiseCase):

    def test_gives_back_each_text(self):
        for text in SHORT_TEXTS + LONG_TEXTS:
            spaces = oracle.spaces_in(text)
            characters = len(oracle.string_of(text))
            self.assert_same(text_of(characters, spaces), text)
            self.assert_same(text_of(characters, spaces[::-1]), text)
            self.assert_same(text_of(characters, spaces[1::2] + spaces[::2]), text)

    def test_all_lists_of_positions(self):
        for characters in range(1, 6):
            texts = {tuple(oracle.spaces_in(text)): text for text in oracle.all_texts(characters)}
            positions = range(-1, characters + 2)
            lists = [[]] + [[a] for a in positions] + [[a, b] for a in positions for b in positions]
            for spaces in lists:
                key = tuple(sorted(spaces))
                if key in texts:
                    self.assert_same(text_of(characters, spaces), texts[key])
                else:
                    self.assert_raises_only(InvalidText, text_of, characters, spaces)

    def test_edges(self):
        self.assertEqual(text_of(600, []), [600])
        self.assertEqual(text_of(600, [598]), [598, 1])
        self.assertEqual(text_of(600, [1]), [1, 598])
        self.assertEqual(text_of(1, []), [1])
        self.assertEqual(text_of(599, list(range(1, 599, 2))), [1] * 300)
        for characters, spaces in [(601, []), (601, [300]), (0, []), (-1, []), (1, [0]), (2, [1]), (8, [0]), (8, [7]),
                                   (8, [8]), (8, [9]), (8, [-1]), (8, [3, 4]), (8, [4, 3]), (8, [3, 3]),
                                   (8, [3, 5, 3]), (10 ** 160, []), (-10 ** 160, []), (8, [10 ** 160]),
                                   (8, [-10 ** 160]), (8, [3, 10 ** 160]), (0, [-1]), (10 ** 160, [10 ** 159])]:
            self.assert_raises_only(InvalidText, text_of, characters, spaces)

    def test_wrong_values(self):
        for value in wrong.NO_INTEGERS:
            self.assert_raises_only(InvalidText, text_of, value, [])
            self.assert_raises_only(InvalidText, text_of, value, [3])
            self.assert_raises_only(InvalidText, text_of, 8, [value])
            self.assert_raises_only(InvalidText, text_of, 8, [5, value])
        for value in [None, True, 3, "3", (), (3, 5), {}, {3: 5}, {3}, range(3, 4), b"a", object(), int]:
            self.assert_raises_only(InvalidText, text_of, 8, value)
        self.assert_raises_only(InvalidText, text_of, True, [])
        self.assert_raises_only(InvalidText, text_of, 8, [True, 3])


class WrapTextTest(PromiseCase):

    def test_short_texts_at_all_widths(self):
        for text in SHORT_TEXTS:
            characters = len(oracle.string_of(text))
            for width in list(range(1, characters + 3)) + [999, 1000]:
                self.assert_same(wrap_text(text, width), oracle.wrap_of(text, width))
                starts = [start for start, _ in oracle.lines_of(text, width)]
                self.assert_same(line_starts(text, width), starts)

    def test_long_texts(self):
        for text in LONG_TEXTS:
            for width in MANY_WIDTHS:
                self.assert_same(wrap_text(text, width), oracle.wrap_of(text, width))
                starts = [start for start, _ in oracle.lines_of(text, width)]
                self.assert_same(line_starts(text, width), starts)

    def test_edges(self):
        self.assertEqual(wrap_text([1], 1), [1])
        self.assertEqual(wrap_text([600], 1), [600])
        self.assertEqual(wrap_text([600], 1000), [600])
        self.assertEqual(wrap_text([3, 1, 2], 1), [3, 1, 2])
        self.assertEqual(wrap_text([3, 1, 2], 7), [5, 2])
        self.assertEqual(wrap_text([3, 1, 2], 8), [8])
        self.assertEqual(wrap_text([3, 1, 2], 1000), [8])
        self.assertEqual(wrap_text([1, 9], 3), [1, 9])
        self.assertEqual(wrap_text([9, 1, 1], 3), [9, 3])
        self.assertEqual(line_starts([9, 1, 1], 3), [0, 10])

    def test_lines_of_one_text_at_two_widths(self):
        for text in [text for characters in range(1, 10) for text in oracle.all_texts(characters)]:
            rows = [line_starts(text, width) for width in range(1, 12)]
            for at, narrow in enumerate(rows):
                for wide in rows[at + 1:]:
                    self.assertLessEqual(len(wide), len(narrow))
                    self.assertTrue(all(low <= high for low, high in zip(narrow, wide)))

    def test_wrong_values(self):
        for function in (wrap_text, line_starts):
            for value in wrong.NO_TEXTS:
                self.assert_raises_only(InvalidText, function, value, 5)
                self.assert_raises_only(InvalidText, function, value, 0)
            for value in wrong.NO_WIDTHS:
                self.assert_raises_only(InvalidWidth, function, [3, 1, 2], value)


class LeastWidthTest(PromiseCase):

    def expected(self, text, lines):
        width = 1
        while len(oracle.lines_of(text, width)) > lines:
            width += 1
        return width

    def test_short_texts(self):
        for text in SHORT_TEXTS:
            for lines in range(1, len(text) + 3):
                self.assert_same(least_width(text, lines), self.expected(text, lines))

    def test_long_texts(self):
        for text in [[600], [1] * 300, [1, 598], [3, 1, 2] * 60, [50, 1, 1, 90, 7, 200, 1, 1, 1, 3, 20]]:
            for lines in (1, 2, 3, 8, 40, 150, 299, 300):
                self.assert_same(least_width(text, lines), self.expected(text, lines))

    def test_edges(self):
        self.assertEqual(least_width([600], 1), 1)
        self.assertEqual(least_width([1] * 300, 1), 599)
        self.assertEqual(least_width([1] * 299 + [2], 1), 600)
        self.assertEqual(least_width([3, 1, 2], 10 ** 160), 1)

    def test_wrong_values(self):
        for value in wrong.NO_TEXTS:
            self.assert_raises_only(InvalidText, least_width, value, 2)
            self.assert_raises_only(InvalidText, least_width, value, 0)
        for value in wrong.NO_INTEGERS + [0, -1, -10 ** 160]:
            self.assert_raises_only(InvalidNumber, least_width, [3, 1, 2], value)


class StringsTest(PromiseCase):

    def wrong_strings(self):
        return [None, True, False, 1, [], ["red"], b"red", ("red",), {}, {"red"}, [3, 1, 2], object(), str,
                "", " ", "  ", " red", "red ", "red  a", "red a  go", "red   go", "red\ta", "red\n", "\tred", "a\nb",
                "caf\u00e9", "a\u00a0b", "a\x7fb", "a\x1fb", "a\u20acb", "\x00", "x" * 601, "a " * 300 + "b",
                " " * 600, "x" * 3000, wrong.nested(39, "red")]

    def test_words(self):
        for text in SHORT_TEXTS + LONG_TEXTS:
            self.assert_same(words_of(oracle.string_of(text)), text)

    def test_all_signs_are_accepted(self):
        signs = "".join(chr(code) for code in range(33, 127))
        self.assertEqual(words_of(signs), [94])
        for sign in signs:
            self.assertEqual(words_of(sign), [1])
            self.assertEqual(wrap_string("a " + sign + " b", 3), ["a " + sign, "b"])

    def test_lines_of_strings(self):
        string = "it was the best of times, it was the worst of times"
        for width in range(1, 60):
            lines = [string[start:end] for start, end in oracle.lines_of(words_of(string), width)]
            self.assert_same(wrap_string(string, width), lines)
        self.assertEqual(wrap_string("a bb ccc", 1), ["a", "bb", "ccc"])
        self.assertEqual(wrap_string("x", 1000), ["x"])

    def test_600_and_601_characters(self):
        self.assertEqual(words_of("x" * 600), [600])
        self.assertEqual(wrap_string("x" * 600, 1), ["x" * 600])
        self.assertEqual(words_of("x" * 300 + " " + "x" * 299), [300, 299])
        self.assert_raises_only(InvalidText, words_of, "x" * 601)
        self.assert_raises_only(InvalidText, words_of, "x" * 300 + " " + "x" * 300)

    def test_wrong_values(self):
        for value in self.wrong_strings():
            self.assert_raises_only(InvalidText, words_of, value)
            self.assert_raises_only(InvalidText, wrap_string, value, 5)
            self.assert_raises_only(InvalidText, wrap_string, value, 0)
        for value in wrong.NO_WIDTHS:
            self.assert_raises_only(InvalidWidth, wrap_string, "red a go", value)


class ConventionsTest(PromiseCase):

    def test_arguments_are_unchanged(self):
        text = [3, 1, 2]
        self.assert_unchanged(is_text, text)
        self.assert_unchanged(character_count, text)
        self.assert_unchanged(spaces_of, text)
        self.assert_unchanged(text_of, 8, [5, 3])
        self.assert_unchanged(wrap_text, text, 2)
        self.assert_unchanged(line_starts, text, 4)
        self.assert_unchanged(least_width, text, 2)

    def test_arguments_are_unchanged_by_errors(self):
        text, spaces = [3, 1, 2], [7, 3, 3]
        self.assert_raises_only(InvalidWidth, wrap_text, text, 0)
        self.assert_raises_only(InvalidText, text_of, 8, spaces)
        self.assertEqual([text, spaces], [[3, 1, 2], [7, 3, 3]])

    def test_returned_lists_are_new(self):
        text, spaces = [3, 1, 2], [3, 5]
        calls = [(spaces_of, (text,)), (text_of, (8, spaces)), (text_of, (8, [])), (wrap_text, (text, 1)),
                 (wrap_text, ([1], 1)), (line_starts, (text, 1)), (words_of, ("red a go",)),
                 (wrap_string, ("red a go", 5))]
        for function, arguments in calls:
            result = function(*arguments)
            expected = list(result)
            result.append(99)
            result[0] = 98
            self.assertEqual(function(*arguments), expected)
        self.assertEqual([text, spaces], [[3, 1, 2], [3, 5]])

    def test_later_changes_of_an_argument_have_no_effect(self):
        text = [3, 1, 2]
        wrap = wrap_text(text, 1)
        text[0] = 50
        self.assertEqual(wrap, [3, 1, 2])
        self.assertEqual(wrap_text(text, 1), [50, 1, 2])

    def test_arguments_by_name(self):
        self.assertEqual(is_text(value=[3]), True)
        self.assertEqual(character_count(text=[3]), 3)
        self.assertEqual(spaces_of(text=[3, 1]), [3])
        self.assertEqual(text_of(spaces=[3], characters=5), [3, 1])
        self.assertEqual(wrap_text(width=3, text=[3, 1]), [3, 1])
        self.assertEqual(line_starts(width=3, text=[3, 1]), [0, 4])
        self.assertEqual(least_width(lines=1, text=[3, 1]), 5)
        self.assertEqual(words_of(string="red a"), [3, 1])
        self.assertEqual(wrap_string(width=3, string="red a"), ["red", "a"])


if __name__ == "__main__":
    unittest.main()
