"""What the tests of several modules share."""

import copy
import unittest


class PromiseCase(unittest.TestCase):

    def assert_raises_only(self, error, function, *arguments):
        """The call raises an error of exactly this class; returns the error."""
        with self.assertRaises(error, msg=repr(arguments)[:200]) as caught:
            function(*arguments)
        self.assertIs(type(caught.exception), error)
        return caught.exception

    def assert_unchanged(self, function, *arguments):
        """The call leaves its arguments as they are, and an equal call has an equal result."""
        before = copy.deepcopy(arguments)
        result = function(*arguments)
        self.assertEqual(arguments, before)
        self.assertEqual(function(*arguments), result)
        return result

    def assert_same(self, value, expected):
        """Equal, and of the same kinds within: no True for 1, no tuple for a list."""
        self.assertEqual(repr(value), repr(expected))
