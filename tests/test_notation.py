"""Promises 29 and 30."""

import random
import re
import unittest

import oracle
import wrong
from promise_case import PromiseCase, screens_at
from wrapclues.errors import InvalidScreens, InvalidText, ParseError
from wrapclues.notation import format_screens, format_text, parse_screens, parse_text

LONG_TEXTS = [[600], [1] * 300, [1] * 299 + [2], [300, 299], [3, 1, 2] * 66 + [6], [1, 2, 3, 4, 5, 6, 7, 8, 9] * 10]

# None of these is a word of a notation, wherever it stands.
WRONG_WORDS = ["", "a", "x1", "1x", "0x1", "1e2", "1_0", "1.", "1.0", ".", ",", "1,", "-", "+", "-1", "+1", "--1", "-0",
               "00", "01", "001", "0" * 200, "0" + "9" * 159, "1\t", "\t1", "1\n", "\n", "\t", "1:1", "1;1", ":1", ";1",
               "::", ";;", "1::", "1;;", "1:;", "1;:", ":;", "None", "True", "[1]", "(1)", "1'", "one",
               "9" * 161, "9" * 5000, "1" + "0" * 4400, "-" + "9" * 160, "~", "!", "#"]

# These are in decimal digits, but not the length of a word or a line.
WRONG_LENGTHS = ["0", "601", "1000", "9" * 160, "9" * 161, "9" * 2900]
WRONG_WIDTHS = ["0:", "1001:", "00:", "01:", "-1:", "+1:", ":", "1", "1;", "::", "9" * 160 + ":",
                "9" * 161 + ":", "9" * 2900 + ":", "1000", "a:", "5:5", "5;:", "5:;"]


def screens_in(string):
    """The screens with this notation, or None: by its form, read apart from the program."""
    number = "(0|[1-9][0-9]*)"
    screen = f"{number}:( {number})+"
    if not re.fullmatch(f"{screen}(; {screen})*", string):
        return None
    screens = []
    for part in string.split("; "):
        width, lengths = part.split(": ")
        screens.append((int(width), [int(length) for length in lengths.split(" ")]))
    characters = {sum(lengths) + len(lengths) - 1 for _, lengths in screens}
    right = all(1 <= width <= 1000 and min(lengths) >= 1 for width, lengths in screens)
    return screens if right and len(characters) == 1 and max(characters) <= 600 else None


def can_be_completed(words, most):
    """True if some notation begins with these words; its screens have at most so many characters."""
    tails = [[]] + [start + [str(length)] for start in ([], ["1:"]) for length in range(1, most + 1)]
    return any(screens_in(" ".join(words + tail)) is not None for tail in tails)


class NotationCase(PromiseCase):

    def assert_index(self, index, function, string):
        error = self.assert_raises_only(ParseError, function, string)
        self.assert_same(error.index, index)

    def assert_wrong_word(self, function, words, word):
        """This word is wrong behind these ones, whatever stands behind it."""
        for more in ([], ["1"], [""], ["1:"], ["1;", "1:", "1"], [word]):
            self.assert_index(len(words), function, " ".join(words + [word] + more))


class TextTest(NotationCase):

    def test_written_and_read_back(self):
        for text in LONG_TEXTS + [text for characters in range(1, 12) for text in oracle.all_texts(characters)]:
            string = format_text(text)
            self.assert_same(string, " ".join(str(length) for length in text))
            self.assert_same(parse_text(string), text)

    def test_each_beginning_is_a_notation(self):
        for text in LONG_TEXTS + [[3, 1, 2], [10, 100, 20]]:
            words = format_text(text).split(" ")
            for size in sorted({1, 2, 3, len(words) - 1, len(words), *range(1, len(words), 17)} - {0}):
                self.assert_same(parse_text(" ".join(words[:size])), text[:size])
                self.assert_wrong_word(parse_text, words[:size], "1;")

    def test_wrong_words(self):
        for word in WRONG_WORDS + WRONG_LENGTHS + WRONG_WIDTHS[:4]:
            for words in ([], ["3"], ["3", "1", "2"], ["590"]):
                self.assert_wrong_word(parse_text, words, word)

    def test_signs_of_a_screen(self):
        for words in ([], ["3"], ["3", "1"]):
            for word in ("5:", "5;", "5:5", ";", ":"):
                self.assert_wrong_word(parse_text, words, word)

    def test_the_first_wrong_word_counts(self):
        self.assert_index(1, parse_text, "3 01 0 x")
        self.assert_index(0, parse_text, "0 01 x")
        self.assert_index(2, parse_text, "3 1 x 600")
        self.assert_index(1, parse_text, "3 600 x")

    def test_spaces(self):
        self.assert_index(0, parse_text, "")
        self.assert_index(0, parse_text, " ")
        self.assert_index(0, parse_text, " 3 1")
        self.assert_index(2, parse_text, "3 1 ")
        self.assert_index(1, parse_text, "3  1")
        self.assert_index(0, parse_text, "3\t1")
        self.assert_index(1, parse_text, "3 1\n")

    def test_600_characters(self):
        self.assert_same(parse_text("600"), [600])
        self.assert_same(parse_text("1 598"), [1, 598])
        self.assert_same(parse_text("598 1"), [598, 1])
        self.assert_index(0, parse_text, "601")
        self.assert_index(1, parse_text, "1 599")
        self.assert_index(1, parse_text, "599 1")
        self.assert_index(1, parse_text, "600 1")
        self.assert_index(300, parse_text, " ".join(["1"] * 301))
        self.assert_index(300, parse_text, " ".join(["1"] * 1500))

    def test_no_strings(self):
        for value in [None, True, False, 0, 3, [], [3, 1, 2], ["3"], (3,), ("3",), b"3 1 2", b"", {}, {"3": 1}, {"3"},
                      object(), str, len, wrong.nested(39, "3"), wrong.EqualToAll()]:
            for function in (parse_text, parse_screens):
                error = self.assert_raises_only(ParseError, function, value)
                self.assertIsNone(error.index)

    def test_no_texts(self):
        for value in wrong.NO_TEXTS:
            self.assert_raises_only(InvalidText, format_text, value)


class ScreensTest(NotationCase):

    def check_beginnings(self, screens):
        """Each beginning of the notation, with and without another word behind it."""
        words = format_screens(screens).split(" ")
        ends = [sum(len(lengths) + 1 for _, lengths in screens[:size + 1]) for size in range(len(screens))]
        for size in range(1, len(words) + 1):
            beginning = " ".join(words[:size])
            if size in ends and not beginning.endswith(";"):
                self.assert_same(parse_screens(beginning), screens)
            elif size > ends[0] or beginning.endswith((":", ";")):
                self.assert_index(size, parse_screens, beginning)
            else:
                width, lengths = screens[0]
                self.assert_same(parse_screens(beginning), [(width, lengths[:size - 1])])
            for word in ("", "01", "x", "601", "1001:"):
                self.assert_index(size, parse_screens, beginning + " " + word)
                self.assert_index(size, parse_screens, beginning + " " + word + " 1")

    def test_written_and_read_back(self):
        for screens, _ in oracle.fitted_lists(6, range(1, 8), [2, 5]):
            string = "; ".join(f"{width}: " + " ".join(map(str, lengths)) for width, lengths in screens)
            self.assert_same(format_screens(screens), string)
            self.assert_same(parse_screens(string), screens)
            self.assert_same(screens_in(string), screens)

    def test_screens_that_clash_are_written_and_read_too(self):
        for screens in wrong.CLASHING:
            self.assert_same(parse_screens(format_screens(screens)), screens)
        self.assert_same(parse_screens("1000: 300 299; 1: 1 598"), [(1000, [300, 299]), (1, [1, 598])])

    def test_up_to_forty_screens_of_long_texts(self):
        for text in LONG_TEXTS:
            for widths in ([1], [1000], range(60, 62), range(1, 41), range(300, 340)):
                screens = screens_at(text, widths)
                self.assert_same(parse_screens(format_screens(screens)), screens)

    def test_each_beginning(self):
        for screens in ([(5, [5, 2])], [(5, [5, 2]), (3, [3, 1, 2])], [(1, [1])], [(1, [1])] * 3, [(1000, [600])] * 2,
                        [(8, [8]), (3, [3, 1, 2]), (4, [4, 3])], screens_at([3, 1, 2, 9, 1], [5, 2, 9, 14])):
            self.check_beginnings(screens)

    def test_each_beginning_of_forty_screens(self):
        self.check_beginnings(screens_at([10, 3, 12, 1, 7], range(4, 44)))

    def test_the_example(self):
        self.assert_index(5, parse_screens, "5: 5 2; 3: 3 3")

    def test_another_number_of_characters(self):
        start = ["5:", "5", "2;", "3:"]
        self.assertEqual(parse_screens(" ".join(start + ["8"])), [(5, [5, 2]), (3, [8])])
        for word in ("7", "9", "10", "600", "7;", "9;", "6;", "1;", "601"):
            self.assert_wrong_word(parse_screens, start, word)
        for word in ("1", "2", "6", "8;"):
            self.assert_index(5, parse_screens, " ".join(start + [word]))
        for word in ("3", "5", "600", "3;", "2;", "1;"):
            self.assert_wrong_word(parse_screens, start + ["3"], word)
        for word in ("1", "2", "4;"):
            self.assert_index(6, parse_screens, " ".join(start + ["3", word]))
        for word in ("1", "2", "1;", "5:"):
            self.assert_wrong_word(parse_screens, start + ["8"], word)
        self.assert_wrong_word(parse_screens, start + ["8;", "1000:"], "7")
        self.assert_index(6, parse_screens, " ".join(start + ["8;", "1000:"]))

    def test_600_characters(self):
        self.assert_same(parse_screens("1: 600"), [(1, [600])])
        self.assert_same(parse_screens("1: 1 598; 2: 600"), [(1, [1, 598]), (2, [600])])
        self.assert_index(1, parse_screens, "1: 601")
        self.assert_index(1, parse_screens, "1: 601; 1: 601")
        self.assert_index(2, parse_screens, "1: 1 599")
        self.assert_index(2, parse_screens, "1: 599 1")
        self.assert_index(2, parse_screens, "1: 600 1")
        self.assert_index(4, parse_screens, "1: 600; 1: 600 1")
        self.assert_index(3, parse_screens, "1: 600; 1: 599")
        self.assert_index(301, parse_screens, "1: " + " ".join(["1"] * 301))
        self.assert_same(parse_screens("1: 599"), [(1, [599])])

    def test_widths(self):
        self.assert_same(parse_screens("1: 1; 1000: 1"), [(1, [1]), (1000, [1])])
        for words in ([], ["5:", "5", "2;"], ["8:", "8;", "7:", "8;"]):
            for word in WRONG_WORDS + WRONG_LENGTHS + WRONG_WIDTHS:
                self.assert_wrong_word(parse_screens, words, word)

    def test_lengths(self):
        with_signs = ["5:", "0;", "01;", "-1;", "601;", ";", ":", "x;", "9" * 161 + ";"]
        for words in (["5:"], ["5:", "5"], ["5:", "5", "2;", "3:"], ["5:", "5", "2;", "3:", "3"]):
            for word in WRONG_WORDS + WRONG_LENGTHS + with_signs:
                self.assert_wrong_word(parse_screens, words, word)

    def test_colons_and_semicolons(self):
        self.assert_index(0, parse_screens, "5 5 2")
        self.assert_index(0, parse_screens, "5 : 5 2")
        self.assert_index(0, parse_screens, "5:5 2")
        self.assert_index(0, parse_screens, "5; 5 2")
        self.assert_index(1, parse_screens, "5: 5: 2")
        self.assert_index(3, parse_screens, "5: 5 2 3: 8")
        self.assert_index(3, parse_screens, "5: 5 2 ; 3: 8")
        self.assert_index(2, parse_screens, "5: 5; 2; 3: 8")
        self.assert_index(2, parse_screens, "5: 5 2;3: 8")
        self.assert_index(3, parse_screens, "5: 5 2; 3 8")
        self.assert_index(3, parse_screens, "5: 5 2;")
        self.assert_index(1, parse_screens, "5: ; 3: 8")
        self.assert_index(5, parse_screens, "5: 5 2; 3: 8;")

    def test_spaces(self):
        self.assert_index(0, parse_screens, "")
        self.assert_index(0, parse_screens, " ")
        self.assert_index(0, parse_screens, " 5: 5 2")
        self.assert_index(3, parse_screens, "5: 5 2 ")
        self.assert_index(1, parse_screens, "5:  5 2")
        self.assert_index(2, parse_screens, "5: 5  2")
        self.assert_index(3, parse_screens, "5: 5 2;  3: 8")
        self.assert_index(3, parse_screens, "5: 5 2; ")
        self.assert_index(1, parse_screens, "5:")
        self.assert_index(1, parse_screens, "5: ")
        self.assert_index(1, parse_screens, "5: 5\t2 8")
        self.assert_index(0, parse_screens, "5:\t5")

    def test_no_screens(self):
        for value in wrong.NO_SCREEN_LISTS:
            self.assert_raises_only(InvalidScreens, format_screens, value)

    def test_the_number_of_screens_has_no_limit(self):
        self.assertEqual(parse_screens("; ".join(["5: 5 2"] * 200)), [(5, [5, 2])] * 200)


class AllStringsTest(NotationCase):
    """All sequences of some words, up to the first wrong one, against the definition."""

    def check_from(self, words, choices, depth, most):
        for word in choices:
            longer = words + [word]
            string = " ".join(longer)
            if not can_be_completed(longer, most):
                self.assert_index(len(words), parse_screens, string)
                for more in choices[:3]:
                    self.assert_index(len(words), parse_screens, string + " " + more)
                continue
            screens = screens_in(string)
            if screens is None:
                self.assert_index(len(longer), parse_screens, string)
            else:
                self.assert_same(parse_screens(string), screens)
                self.assertEqual(format_screens(screens), string)
            if len(longer) < depth:
                self.check_from(longer, choices, depth, most)

    def test_short_ones(self):
        self.check_from([], ["1:", "1", "2", "3", "1;", "3;", "", "0"], 5, 16)

    def test_longer_ones(self):
        self.check_from([], ["7:", "1", "3;", "2"], 7, 24)

    def test_close_to_600_characters(self):
        self.check_from([], ["1000:", "1", "1;", "597", "598", "599;", "600", "600;"], 5, 601)

    def test_drawn_changes_of_notations(self):
        draw = random.Random(30)
        signs = "0123456789:; -x"
        for _ in range(300):
            text = draw.choice(oracle.all_texts(9))
            string = format_screens(screens_at(text, draw.sample(range(1, 12), draw.randint(1, 3))))
            at = draw.randrange(len(string))
            changed = string[:at] + draw.choice(["", draw.choice(signs)]) + string[at + draw.choice([0, 1]):]
            self.check_string(changed)

    def check_string(self, string):
        screens = screens_in(string)
        if screens is not None:
            self.assert_same(parse_screens(string), screens)
            return
        words = string.split(" ")
        sizes = [size for size in range(len(words)) if not can_be_completed(words[:size + 1], 30)]
        # Completions of up to 30 characters do for these; longer ones are left out.
        if max([int(number) for number in re.findall("[0-9]+", string)]) < 30:
            self.assert_index(min(sizes, default=len(words)), parse_screens, string)


class ConventionsTest(NotationCase):

    def test_arguments_are_unchanged(self):
        self.assert_unchanged(format_text, [3, 1, 2])
        self.assert_unchanged(format_screens, [(5, [5, 2]), (3, [3, 1, 2])])
        self.assert_unchanged(parse_text, "3 1 2")
        self.assert_unchanged(parse_screens, "5: 5 2; 3: 3 1 2")

    def test_returned_lists_are_new(self):
        self.assert_new(parse_text, "3 1 2")
        self.assert_new(parse_screens, "5: 5 2; 3: 3 1 2")
        screens = parse_screens("5: 5 2; 5: 5 2")
        screens[0][1].append(9)
        self.assertEqual(screens[1], (5, [5, 2]))
        self.assertEqual(parse_screens("5: 5 2; 5: 5 2"), [(5, [5, 2]), (5, [5, 2])])

    def test_arguments_by_name(self):
        self.assertEqual(format_text(text=[3, 1, 2]), "3 1 2")
        self.assertEqual(format_screens(screens=[(5, [5, 2])]), "5: 5 2")
        self.assertEqual(parse_text(string="3 1 2"), [3, 1, 2])
        self.assertEqual(parse_screens(string="5: 5 2"), [(5, [5, 2])])


if __name__ == "__main__":
    unittest.main()
