"""Promise 31."""

import unittest

import oracle
import wrong
from promise_case import PromiseCase, screens_at
from wrapclues.console import Console
from wrapclues.errors import InvalidCommand, InvalidNumber, InvalidScreens, InvalidWidth, NoScreens, ParseError
from wrapclues.errors import ScreensClash
from wrapclues.fitting import count_texts, fits, nth_text
from wrapclues.forecasts import certain_breaks, fewest_lines, most_lines
from wrapclues.notation import format_screens, format_text
from wrapclues.positions import pattern_of

LONG_TEXT = [3, 1, 2] * 66 + [6]

# Each of these is a near miss of one of the forms.
NO_COMMANDS = [
    "", " ", "  ", "\n", "\t", "ok", "help", "screens", "fit", "break", "line", "undo", "5: 5 2", "3", "none",
    "screen", "screen5: 5 2", "screen\t5: 5 2", "screen\n5: 5 2", " screen 5: 5 2", "Screen 5: 5 2", "SCREEN 5: 5 2",
    "screen:", "screen: 5: 5 2", "\tscreen 5: 5 2", "screeen 5: 5 2", "screens 5: 5 2",
    "clear ", " clear", "clear 1", "clear all", "Clear", "CLEAR", "clear\n", "clear\t", "clear  ", "clears",
    "clear clear",
    "pattern ", " pattern", "pattern 5", "Pattern", "PATTERN", "pattern\n", "pattern  ", "patter", "pattern pattern",
    "count ", " count", "count 5", "Count", "COUNT", "count\n", "count  ", "counts",
    "fits", "fits3 1 2", "fits\t3 1 2", " fits 3 1 2", "Fits 3 1 2", "FITS 3 1 2", "fitss 3 1 2", "fits:"]

NO_NUMBERS = ["", " ", " 3", "3 ", "3 3", " 3 ", "03", "00", "000", "01", "-1", "+1", "-0", "3.0", "3,", "3;", "3:",
              "x", "3x", "x3", "0x3", "1e2", "1_0", "3\n", "3\t", "\t3", "None", "True", "three", "0" * 160, "0" + "9" * 159,
              "9" * 161, "1" + "0" * 160, "9" * 2900, "9" * 5000, "-" + "9" * 159]


def console_with(screens):
    console = Console()
    for screen in screens:
        console.execute("screen " + format_screens([screen]))
    return console


class ConsoleCase(PromiseCase):

    def state(self, console):
        """All that a console tells of its screens."""
        try:
            return [console.execute(command) for command in ("pattern", "count", "lines 3", "breaks 2")]
        except NoScreens:
            return None

    def assert_refused(self, error, console, command):
        """The command raises this error and changes nothing; returns the error."""
        before = self.state(console)
        raised = self.assert_raises_only(error, console.execute, command)
        self.assertEqual(self.state(console), before)
        return raised

    def assert_index(self, index, console, command):
        self.assert_same(self.assert_refused(ParseError, console, command).index, index)

    def assert_answers(self, console, screens, widths):
        """Each command answers as the functions do."""
        count = count_texts(screens)
        self.assert_same(console.execute("pattern"), pattern_of(screens))
        self.assert_same(console.execute("count"), str(count))
        for number in [number for number in (0, 1, 2, count // 2, count - 1) if 0 <= number < count]:
            self.assert_same(console.execute(f"text {number}"), format_text(nth_text(screens, number)))
        self.assert_refused(InvalidNumber, console, f"text {count}")
        for width in widths:
            fewest, most = fewest_lines(screens, width), most_lines(screens, width)
            answer = str(fewest) if fewest == most else str(fewest) + " to " + str(most)
            self.assert_same(console.execute(f"lines {width}"), answer)
            breaks = " ".join(str(position) for position in certain_breaks(screens, width))
            self.assert_same(console.execute(f"breaks {width}"), breaks or "none")


class AnswersTest(ConsoleCase):

    def test_short_screens(self):
        for characters in (1, 2, 3, 6):
            for screens, _ in oracle.fitted_lists(characters, range(1, characters + 2), [2, 5]):
                console = console_with(screens)
                self.assert_answers(console, screens, list(range(1, characters + 3)) + [1000])
                for text in oracle.all_texts(characters):
                    expected = "yes" if fits(screens, text) else "no"
                    self.assert_same(console.execute("fits " + format_text(text)), expected)

    def test_forty_screens_of_600_characters(self):
        screens = screens_at(LONG_TEXT, range(60, 100))
        console = console_with(screens)
        self.assert_answers(console, screens, [1, 17, 75, 600, 1000])
        self.assertEqual(console.execute("fits " + format_text(LONG_TEXT)), "yes")
        self.assertEqual(console.execute("fits " + format_text(LONG_TEXT[::-1])), "no")

    def test_all_texts_of_600_characters(self):
        console = console_with([(1000, [600])])
        count = oracle.fibonacci(600)
        self.assertEqual(console.execute("count"), str(count))
        self.assertEqual(console.execute("text 0"), "1 " * 299 + "2")
        self.assertEqual(console.execute(f"text {count - 1}"), "600")
        self.assertEqual(console.execute("lines 1"), "1 to 300")
        self.assertEqual(console.execute("breaks 1"), "none")
        self.assertEqual(console.execute("pattern"), "x" + "?" * 598 + "x")

    def test_examples(self):
        console = Console()
        commands = ["screen 5: 5 2", "count", "lines 3", "text 3", "breaks 3", "fits 5 2", "fits 3 1 2", "fits 8",
                    "pattern", "lines 5", "lines 8", "breaks 8", "screen 3: 3 1 2", "breaks 3", "count", "text 0",
                    "fits 5 2", "clear"]
        answers = ["ok", "5", "2 to 3", "3 1 2", "5", "yes", "yes", "no",
                   "x???x_xx", "2", "1", "none", "ok", "3 5", "2", "1 1 1 2", "no", "ok"]
        self.assertEqual([console.execute(command) for command in commands], answers)

    def test_texts_with_another_number_of_characters_do_not_fit(self):
        console = console_with([(5, [5, 2])])
        for text in ("1", "3 1", "3 1 3", "9", "5 2 1", "600", "599"):
            self.assert_same(console.execute("fits " + text), "no")

    def test_two_consoles_side_by_side(self):
        one, other = Console(), Console()
        one.execute("screen 5: 5 2")
        self.assert_refused(NoScreens, other, "count")
        other.execute("screen 1000: 3")
        self.assertEqual([one.execute("count"), other.execute("count")], ["5", "2"])
        one.execute("clear")
        self.assertEqual(other.execute("count"), "2")
        self.assert_refused(NoScreens, one, "count")

    def test_commands_by_name_and_again(self):
        console = Console()
        self.assertEqual(console.execute(command="screen 5: 5 2"), "ok")
        self.assertEqual([console.execute(command="count"), console.execute("count")], ["5", "5"])


class ScreenTest(ConsoleCase):

    def test_screens_are_added_one_by_one(self):
        screens = screens_at([3, 1, 2, 9, 1], [7, 3, 12, 5])
        console = Console()
        for size, screen in enumerate(screens):
            self.assert_same(console.execute("screen " + format_screens([screen])), "ok")
            self.assert_answers(console, screens[:size + 1], [4, 20])

    def test_clear(self):
        console = Console()
        self.assert_same(console.execute("clear"), "ok")
        self.assert_refused(NoScreens, console, "pattern")
        console.execute("screen 5: 5 2")
        self.assert_same(console.execute("clear"), "ok")
        self.assert_refused(NoScreens, console, "pattern")
        # Another number of characters, and what clashed before, may follow.
        self.assertEqual([console.execute("screen 4: 4 4"), console.execute("pattern")], ["ok", "x??x_x??x"])

    def test_screens_that_clash(self):
        for screens in wrong.CLASHING:
            console = console_with(screens[:-1])
            error = self.assert_refused(ScreensClash, console, "screen " + format_screens(screens[-1:]))
            self.assertIsInstance(error.clash, tuple)
            self.assertIn(error.clash, oracle.clashes_of(screens))

    def test_a_clash_is_one_of_all_screens(self):
        screens = screens_at([3, 1, 2, 9, 1], [7, 3, 12, 5])
        console = console_with(screens)
        for lengths in oracle.all_texts(20)[::97]:
            for width in (4, 11, 25):
                more = screens + [(width, lengths)]
                clashes = oracle.clashes_of(more)
                if clashes:
                    error = self.assert_refused(ScreensClash, console, "screen " + format_screens(more[-1:]))
                    self.assertIn(error.clash, clashes)

    def test_screens_with_another_number_of_characters(self):
        console = console_with([(5, [5, 2])])
        for string in ("5: 5 1", "5: 5 3", "5: 5 2 1", "1: 1", "1000: 600", "5: 5"):
            self.assert_refused(InvalidScreens, console, "screen " + string)
        # That comes before clashes.
        self.assert_refused(InvalidScreens, console, "screen 9: 3 3")

    def test_notations_of_one_screen(self):
        for console in (Console(), console_with([(5, [5, 2])])):
            indices = {"": 0, " ": 0, "5": 0, "5 5 2": 0, "x": 0, "0: 8": 0, "1001: 8": 0, "05: 8": 0, "5;": 0,
                       "5:": 1, "5: ": 1, "5:  8": 1, "5: 08": 1, "5: 8;": 1, "5: 601": 1, "5: 0": 1, "5: 5:": 1,
                       "5: 5 x": 2, "5: 5 2;": 2, "5: 5 2; 3: 3 1 2": 2, "5: 5 2; 3: 3 3": 2, "5: 5 2 ": 3,
                       "5: 5 2 x": 3, "5: 5 2 ; 5: 5 2": 3, "5: 600 1": 2, "5: 8; 8": 1, " 5: 5 2": 0,
                       "5: 5 2; ": 2, "5: 5 2\n": 2, "5:5 2": 0, "9" * 161 + ": 8": 0, "5: " + "9" * 2900: 1}
            for string, index in indices.items():
                self.assert_index(index, console, "screen " + string)
        self.assert_index(301, Console(), "screen 1:" + " 1" * 301)


class FitsTest(ConsoleCase):

    def test_notations_of_a_text(self):
        for console in (Console(), console_with([(5, [5, 2])])):
            indices = {"": 0, " ": 0, "x": 0, "0": 0, "03": 0, "601": 0, "5: 5 2": 0, "3:": 0, " 3 1 2": 0, "-3": 0,
                       "3 x": 1, "3  1": 1, "3 ": 1, "3 1;": 1, "3 600": 1, "3 1 2 ": 3, "3 1 02": 2, "600 1": 1,
                       "3\t1": 0, "3 1\n": 1, "9" * 161: 0, "3 " + "9" * 2900: 1}
            for string, index in indices.items():
                self.assert_index(index, console, "fits " + string)


class ErrorsTest(ConsoleCase):

    def consoles(self):
        return (Console(), console_with([(5, [5, 2])]))

    def test_no_commands(self):
        for console in self.consoles():
            for command in NO_COMMANDS:
                self.assert_refused(InvalidCommand, console, command)

    def test_numbers_that_are_none(self):
        for console in self.consoles():
            for word in ("text", "lines", "breaks"):
                self.assert_refused(InvalidCommand, console, word)
                for form in (word.upper() + " 3", word.capitalize() + " 3", " " + word + " 3", word + "  3", word + "3",
                             word + "\t3", word + " 3 1", word + " 3 ", word + "s 3", word[:-1] + " 3"):
                    self.assert_refused(InvalidCommand, console, form)
                for number in NO_NUMBERS:
                    self.assert_refused(InvalidCommand, console, word + " " + number)

    def test_no_strings(self):
        values = [None, True, False, 0, 3, b"count", [], ["count"], ("count",), {}, {"count": 1}, {"count"}, object(),
                  str, len, wrong.nested(39, "count"), wrong.EqualToAll()]
        for console in self.consoles():
            for value in values:
                self.assert_refused(InvalidCommand, console, value)

    def test_no_screens_come_next(self):
        commands = ["pattern", "count", "text 0", "text 99", "text " + "9" * 160, "lines 3", "lines 0", "lines 1001",
                    "breaks 3", "breaks 0", "breaks " + "9" * 160, "fits 3 1 2", "fits 600"]
        for command in commands:
            self.assert_refused(NoScreens, Console(), command)
            console = console_with([(5, [5, 2])])
            console.execute("clear")
            self.assert_refused(NoScreens, console, command)

    def test_wrong_numbers(self):
        console = console_with([(5, [5, 2])])
        for number in ("5", "6", "100", "9" * 160, "1" + "0" * 159):
            self.assert_refused(InvalidNumber, console, "text " + number)
        self.assertEqual([console.execute(f"text {number}") for number in range(5)],
                         ["1 1 1 2", "1 3 2", "2 2 2", "3 1 2", "5 2"])

    def test_wrong_widths(self):
        console = console_with([(5, [5, 2])])
        for word in ("lines", "breaks"):
            for number in ("0", "1001", "10000", "9" * 160):
                self.assert_refused(InvalidWidth, console, word + " " + number)
            self.assertIsInstance(console.execute(word + " 1"), str)
            self.assertIsInstance(console.execute(word + " 1000"), str)


if __name__ == "__main__":
    unittest.main()
