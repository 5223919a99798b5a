"""What the tests of several modules share."""

import copy
import unittest

import oracle
from wrapclues.errors import ScreensClash
from wrapclues.texts import wrap_text


def screens_at(text, widths):
    """What the text shows at these widths."""
    return [(width, wrap_text(text, width)) for width in widths]


class PromiseCase(unittest.TestCase):

    def assert_raises_only(self, error, function, *arguments):
        """The call raises an error of exactly this class; returns the error."""
        with self.assertRaises(error, msg=repr(arguments)[:200]) as caught:
            function(*arguments)
        self.assertIs(type(caught.exception), error)
        return caught.exception

    def assert_unchanged(self, function, *arguments):
        """The call leaves its arguments as they are, and an equal call has an equal result."""
        before = copy.deepcopy(arguments)
        result = function(*arguments)
        self.assertEqual(arguments, before)
        self.assertEqual(function(*arguments), result)
        return result

    def assert_same(self, value, expected):
        """Equal, and of the same kinds within: no True for 1, no tuple for a list."""
        self.assertEqual(repr(value), repr(expected))

    def assert_clash(self, screens, function, *arguments):
        """The call raises ScreensClash with a clash of the screens."""
        error = self.assert_raises_only(ScreensClash, function, *arguments)
        self.assertIsInstance(error.clash, tuple)
        self.assertIn(error.clash, oracle.clashes_of(screens))

    def assert_new(self, function, *arguments):
        """The returned list is new at each call, and none of the lists that were passed."""
        result = function(*arguments)
        expected = list(result)
        result.append(99)
        result[0] = 98
        self.assert_same(function(*arguments), expected)
        self.assertFalse(any(result is argument for argument in arguments))
