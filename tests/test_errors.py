"""Promise 32, and the classes that later modules raise."""

import unittest

from wrapclues import errors

DERIVED = ["InvalidText", "InvalidWidth", "InvalidNumber", "InvalidScreens", "ScreensClash", "InvalidPosition",
           "NotFitting", "InvalidLengths", "InvalidRange", "InvalidIndex", "NothingToUndo", "ParseError",
           "InvalidCommand", "NoScreens"]
WITH_ATTRIBUTES = ["ScreensClash", "ParseError"]
WITH_MESSAGE = ["WrapCluesError"] + [name for name in DERIVED if name not in WITH_ATTRIBUTES]


class ErrorsTest(unittest.TestCase):

    def test_base_is_derived_directly_from_value_error(self):
        self.assertEqual(errors.WrapCluesError.__bases__, (ValueError,))

    def test_all_others_are_derived_directly_from_the_base(self):
        for name in DERIVED:
            self.assertEqual(getattr(errors, name).__bases__, (errors.WrapCluesError,), name)

    def test_no_other_class_and_all_defined_here(self):
        classes = [name for name, value in vars(errors).items() if isinstance(value, type)]
        self.assertEqual(sorted(classes), sorted(DERIVED + ["WrapCluesError"]))
        for name in classes:
            self.assertEqual(getattr(errors, name).__module__, "wrapclues.errors")
            self.assertEqual(getattr(errors, name).__name__, name)

    def test_no_class_is_caught_as_another_one(self):
        for name in DERIVED:
            for other in DERIVED:
                self.assertEqual(issubclass(getattr(errors, name), getattr(errors, other)), name == other)

    def test_message(self):
        for name in WITH_MESSAGE:
            error = getattr(errors, name)("what is wrong")
            self.assertEqual(str(error), "what is wrong")
            self.assertIsInstance(error, ValueError)

    def test_screens_clash_has_its_clash(self):
        clash = ("room", 0, 0, 0, 1)
        self.assertEqual(errors.ScreensClash(clash).clash, clash)
        self.assertEqual(errors.ScreensClash(clash=clash).clash, clash)
        self.assertIsInstance(str(errors.ScreensClash(clash)), str)
        with self.assertRaises(TypeError):
            errors.ScreensClash()

    def test_screens_clash_attribute_belongs_to_each_object(self):
        first, second = errors.ScreensClash(("room", 0, 0, 0, 1)), errors.ScreensClash(("long", 1, 2, 3, 4))
        self.assertEqual([first.clash, second.clash], [("room", 0, 0, 0, 1), ("long", 1, 2, 3, 4)])

    def test_parse_error_has_its_index(self):
        self.assertIsNone(errors.ParseError().index)
        self.assertEqual(errors.ParseError(5).index, 5)
        self.assertEqual(errors.ParseError(index=0).index, 0)
        self.assertIsNone(errors.ParseError(index=None).index)
        self.assertIsInstance(str(errors.ParseError(5)), str)

    def test_init_with_an_attribute_is_defined_in_the_class_itself(self):
        for name in WITH_ATTRIBUTES:
            self.assertIn("__init__", vars(getattr(errors, name)))


if __name__ == "__main__":
    unittest.main()
