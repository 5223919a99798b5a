"""The examples of the document, and the names and parameters of its interface."""

import builtins
import doctest
import importlib
import inspect
import unittest

FUNCTIONS = {
    "texts": {"is_text": ["value"], "character_count": ["text"], "spaces_of": ["text"],
              "text_of": ["characters", "spaces"], "wrap_text": ["text", "width"], "line_starts": ["text", "width"],
              "least_width": ["text", "lines"], "words_of": ["string"], "wrap_string": ["string", "width"]},
    "clashes": {"is_screen": ["value"], "are_screens": ["value"], "screen_of": ["text", "width"],
                "find_clash": ["screens"], "is_clash": ["screens", "value"]},
    "positions": {"pattern_of": ["screens"], "reason_for": ["screens", "position"],
                  "is_reason": ["screens", "position", "value"]},
    "fitting": {"fits": ["screens", "text"], "count_texts": ["screens"], "nth_text": ["screens", "number"],
                "text_index": ["screens", "text"]},
    "forecasts": {"fewest_lines": ["screens", "width"], "most_lines": ["screens", "width"],
                  "possible_breaks": ["screens", "width"], "certain_breaks": ["screens", "width"],
                  "count_wraps": ["screens", "width"], "nth_wrap": ["screens", "width", "number"],
                  "wrap_index": ["screens", "width", "lengths"]},
    "widths": {"width_range": ["lengths", "screens"]},
    "cores": {"visible_spaces": ["text", "low", "high"], "core_of": ["text", "low", "high"],
              "are_alike": ["text", "other", "low", "high"], "separating_width": ["text", "other", "low", "high"],
              "count_alike": ["text", "low", "high"]},
    "reflow": {"wrap_from": ["text", "width", "word"], "meeting_word": ["text", "width", "first", "second"],
               "replace_words": ["text", "first", "count", "words"], "changed_lines": ["text", "other", "width"]},
    "notation": {"format_text": ["text"], "format_screens": ["screens"], "parse_text": ["string"],
                 "parse_screens": ["string"]},
}

# The methods of the classes, without the object itself.
CLASSES = {
    ("albums", "Album"): {"__init__": ["characters"], "add_screen": ["width", "lengths"], "remove_screen": ["index"],
                          "undo": [], "all_screens": [], "pattern": [], "texts_left": [],
                          "texts_with": ["width", "lengths"], "log": [], "clone": [], "__len__": [],
                          "__eq__": ["other"]},
    ("console", "Console"): {"__init__": [], "execute": ["command"]},
    ("errors", "ScreensClash"): {"__init__": ["clash"]},
    ("errors", "ParseError"): {"__init__": ["index"]},
}

# All other parameters have no default value.
DEFAULTS = {("width_range", "screens"): None, ("ParseError.__init__", "index"): None}


class InterfaceTest(unittest.TestCase):

    def test_examples(self):
        # doctest leaves the last value behind as a builtin, which other tests must not see.
        self.addCleanup(vars(builtins).pop, "_", None)
        results = doctest.testfile("examples.txt")
        self.assertEqual(results.failed, 0)
        self.assertEqual(results.attempted, 81)

    def test_functions_stand_in_their_files_with_their_parameters(self):
        for module, functions in FUNCTIONS.items():
            names = vars(importlib.import_module("wrapclues." + module))
            for name, parameters in functions.items():
                self.assertTrue(inspect.isfunction(names[name]), name)
                self.assertEqual(names[name].__module__, "wrapclues." + module)
                self.check_parameters(name, names[name], parameters)

    def test_methods_stand_in_their_classes_with_their_parameters(self):
        for (module, name), methods in CLASSES.items():
            found = vars(importlib.import_module("wrapclues." + module))[name]
            self.assertTrue(inspect.isclass(found), name)
            self.assertEqual(found.__module__, "wrapclues." + module)
            for method, parameters in methods.items():
                self.assertTrue(inspect.isfunction(vars(found)[method]), (name, method))
                self.check_parameters(name + "." + method, vars(found)[method], ["self"] + parameters)

    def check_parameters(self, name, function, parameters):
        found = inspect.signature(function).parameters.values()
        self.assertEqual([parameter.name for parameter in found], parameters, name)
        for parameter in found:
            self.assertIs(parameter.kind, parameter.POSITIONAL_OR_KEYWORD)
            default = DEFAULTS.get((name, parameter.name), parameter.empty)
            self.assertIs(parameter.default, default, name)


if __name__ == "__main__":
    unittest.main()
