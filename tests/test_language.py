"""The rules of the language that can be read off the files of the package, by number."""

import ast
import builtins
import pathlib
import re
import unittest

PACKAGE = pathlib.Path(__file__).resolve().parent.parent / "wrapclues"
FILES = {path.stem: path.read_text(encoding="utf-8") for path in sorted(PACKAGE.rglob("*.py"))}
TREES = {name: ast.parse(source) for name, source in FILES.items()}

# An interactive session, and doctest, keep the last value as a builtin of this name.
TAKEN = set(vars(builtins)) - {"_"}
BUILTINS = set("""len range enumerate zip min max sum abs sorted reversed int str bool list tuple dict set isinstance
    ord repr any all divmod Exception ValueError TypeError KeyError IndexError LookupError super""".split())
METHODS = set("""append clear copy count endswith extend find get index insert isalnum isalpha isdigit islower isspace
    isupper items join keys ljust lower lstrip partition pop remove replace reverse rfind rjust rpartition rsplit
    rstrip setdefault split splitlines startswith strip update upper values zfill bit_length add discard
    __init__""".split())
STATEMENTS = (ast.Assign, ast.AugAssign, ast.If, ast.While, ast.For, ast.Return, ast.Break, ast.Continue, ast.Pass,
              ast.Raise, ast.Expr, ast.FunctionDef, ast.ClassDef, ast.ImportFrom, ast.Try, ast.Delete)
BARRED = re.compile(r"_wall|_WallAttr|\b(type|typing|enum|namedtuple|dataclass|overload|contextmanager|eval|exec)\b")


def nodes(kind):
    return [(name, node) for name, tree in TREES.items() for node in ast.walk(tree) if isinstance(node, kind)]


class LanguageTest(unittest.TestCase):

    def test_files(self):
        """L1, L14: one flat folder of .py files with plain characters."""
        for path in PACKAGE.rglob("*"):
            if "__pycache__" not in path.parts:
                self.assertEqual((path.suffix, path.parent), (".py", PACKAGE))
        for name, source in FILES.items():
            self.assertTrue(all(sign == "\n" or " " <= sign <= "~" for sign in source), name)

    def test_size(self):
        """L10."""
        for name, source in FILES.items():
            lines = source.split("\n")
            self.assertLessEqual(len(lines), 399, name)
            self.assertLessEqual(max(len(line) for line in lines), 120, name)
        for name, node in nodes(ast.FunctionDef):
            self.assertLessEqual(node.end_lineno - node.lineno + 1, 40, (name, node.name))

    def test_imports(self):
        """L2, L15, L16: full names, from the file that defines them, no name twice, no circle."""
        self.assertEqual(nodes(ast.Import), [])
        imported = {name: set() for name in FILES}
        for name, node in nodes(ast.ImportFrom):
            self.assertEqual(node.level, 0)
            package, _, module = node.module.partition(".")
            self.assertEqual(package, "wrapclues")
            imported[name].add(module)
            for alias in node.names:
                self.assertIsNone(alias.asname)
                self.assertIn(alias.name, self.defined_in(module), name)
        self.assertEqual(imported["__init__"], set())
        ready = []
        while len(ready) < len(imported):
            fresh = [name for name in imported if name not in ready and imported[name] <= set(ready)]
            self.assertNotEqual(fresh, [], "the files import from each other")
            ready += fresh

    def defined_in(self, module):
        names = []
        for node in TREES[module].body:
            if isinstance(node, (ast.FunctionDef, ast.ClassDef)):
                names.append(node.name)
            elif isinstance(node, ast.Assign):
                names += [target.id for target in node.targets]
        self.assertEqual(len(names), len(set(names)), module)
        return names

    def test_module_level(self):
        """L3."""
        for name, tree in TREES.items():
            for node in tree.body[1:]:
                self.assertIsInstance(node, (ast.ImportFrom, ast.Assign, ast.FunctionDef, ast.ClassDef), name)

    def test_statements(self):
        """L4, L6: only known statements, no decorators."""
        for name, node in nodes(ast.stmt):
            self.assertIsInstance(node, STATEMENTS, (name, node.lineno))
        for name, node in nodes((ast.FunctionDef, ast.ClassDef)):
            self.assertEqual(node.decorator_list, [], (name, node.name))

    def test_builtins_and_methods(self):
        """L8, L25."""
        for name, node in nodes(ast.Name):
            if node.id in TAKEN:
                self.assertIn(node.id, BUILTINS, (name, node.lineno))
                self.assertIsInstance(node.ctx, ast.Load, (name, node.lineno))
        allowed = METHODS | {method.name for _, node in nodes(ast.ClassDef) for method in self.methods_of(node)}
        for name, node in nodes(ast.Call):
            if isinstance(node.func, ast.Attribute):
                self.assertIn(node.func.attr, allowed, (name, node.lineno))

    def methods_of(self, node):
        return [entry for entry in node.body if isinstance(entry, ast.FunctionDef)]

    def test_classes(self):
        """L5, L18, L26: a docstring and methods, whose names are no other names."""
        builtin = {word for kind in (str, int, list, dict, set, bytes) for word in dir(kind)}
        attributes = {node.attr for _, node in nodes(ast.Attribute) if isinstance(node.ctx, ast.Store)}
        for name, node in nodes(ast.ClassDef):
            methods = [method.name for method in self.methods_of(node)]
            self.assertIsInstance(node.body[0], ast.Expr, node.name)
            self.assertEqual(len(node.body), len(methods) + 1, node.name)
            self.assertEqual(len(methods), len(set(methods)), node.name)
            for method in methods:
                if method.startswith("__"):
                    self.assertIn(method, ["__init__", "__len__", "__eq__"], node.name)
                else:
                    self.assertNotIn(method, builtin | attributes, node.name)

    def test_double_underscore_methods(self):
        """L28: no value from __init__, a measured one from __len__, and __eq__ asks for the class first."""
        for name, node in nodes(ast.ClassDef):
            for method in self.methods_of(node):
                at = (name, node.name, method.name)
                returns = [entry for entry in ast.walk(method) if isinstance(entry, ast.Return)]
                if method.name == "__init__":
                    self.assertEqual(returns, [], at)
                elif method.name == "__len__":
                    self.assertEqual([entry.value.func.id for entry in returns], ["len"], at)
                elif method.name == "__eq__":
                    first = "if not isinstance(other, " + node.name + "):\n    return False"
                    self.assertEqual(ast.unparse(method.body[0]), first, at)

    def test_attributes(self):
        """L18: each attribute that is read is assigned by a class, or is a method."""
        known = {node.attr for _, node in nodes(ast.Attribute) if isinstance(node.ctx, ast.Store)} | METHODS
        known |= {method.name for _, node in nodes(ast.ClassDef) for method in self.methods_of(node)}
        for name, node in nodes(ast.Attribute):
            self.assertIn(node.attr, known, (name, node.lineno))

    def test_names(self):
        """L12, L15: plain names, none that of a builtin or of an import or class of the file."""
        for name, node in nodes(ast.FunctionDef):
            taken = [alias.name for owner, other in nodes(ast.ImportFrom) if owner == name for alias in other.names]
            taken += [other.name for owner, other in nodes(ast.ClassDef) if owner == name]
            own = [entry.arg for entry in node.args.args]
            own += [entry.id for entry in ast.walk(node)
                    if isinstance(entry, ast.Name) and isinstance(entry.ctx, ast.Store)]
            for word in own:
                self.assertNotIn(word, taken, (name, node.name))
                self.assertNotIn(word, TAKEN, (name, node.name))
                self.assertTrue(word == "_" or re.fullmatch("_?[A-Za-z][A-Za-z0-9_]*", word), word)

    def test_defaults(self):
        """L4: the default values are plain, and no parameter has a star."""
        for name, node in nodes(ast.FunctionDef):
            self.assertTrue(all(isinstance(entry, ast.Constant) for entry in node.args.defaults), (name, node.name))
            self.assertEqual([node.args.vararg, node.args.kwarg, node.args.kwonlyargs], [None, None, []])

    def test_is(self):
        """L20: beside None, True or False only."""
        for name, node in nodes(ast.Compare):
            for sign, right in zip(node.ops, node.comparators):
                if isinstance(sign, (ast.Is, ast.IsNot)):
                    self.assertIsInstance(right, ast.Constant, (name, node.lineno))
                    self.assertIn(right.value, (None, True, False), (name, node.lineno))

    def test_errors(self):
        """L19: an error is created where it is raised, and none of Python's own is raised."""
        for name, node in nodes(ast.Raise):
            self.assertIsInstance(node.exc, ast.Call, (name, node.lineno))
            self.assertIn(node.exc.func.id, self.defined_in("errors"), (name, node.lineno))

    def test_keywords_of_builtins(self):
        """L22."""
        allowed = {"sorted": ["key", "reverse"], "min": ["key", "default"], "max": ["key", "default"],
                   "sum": ["start"], "enumerate": ["start"], "zip": ["strict"]}
        for name, node in nodes(ast.Call):
            if isinstance(node.func, ast.Name) and node.func.id in TAKEN:
                for keyword in node.keywords:
                    self.assertIn(keyword.arg, allowed.get(node.func.id, []), (name, node.lineno))

    def calls_in(self, tree, names):
        """The calls of builtins with these names, each with the node around it."""
        return [(node, child) for node in ast.walk(tree) for child in ast.iter_child_nodes(node)
                if isinstance(child, ast.Call) and isinstance(child.func, ast.Name) and child.func.id in names]

    def test_iterated_at_once(self):
        """L23: all but a range is iterated where it stands; a range may be kept in a variable."""
        takers = ["list", "tuple", "dict", "sorted", "sum", "any", "all", "enumerate", "zip", "min", "max"]
        for name, tree in TREES.items():
            for around, call in self.calls_in(tree, ["zip", "enumerate", "reversed", "range", "map"]):
                at = (name, call.lineno)
                if isinstance(around, ast.Call):
                    allowed = takers + ["reversed", "len"] if call.func.id == "range" else takers
                    self.assertIn(around.func.id, allowed, at)
                elif isinstance(around, ast.Assign):
                    self.assertEqual(call.func.id, "range", at)
                else:
                    self.assertIsInstance(around, (ast.For, ast.comprehension, ast.Compare), at)
                    self.assertFalse(isinstance(around, ast.Compare) and call.func.id != "range", at)
        self.assertEqual(nodes((ast.GeneratorExp, ast.Yield, ast.YieldFrom)), [])

    def test_sets(self):
        """L24: a set is sorted or measured at once, or kept in a variable and asked what is in it."""
        for name, tree in TREES.items():
            for around, call in self.calls_in(tree, ["set"]):
                at = (name, call.lineno)
                if isinstance(around, ast.Call):
                    self.assertIn(around.func.id, ["sorted", "len"], at)
                else:
                    self.assertIsInstance(around, (ast.Assign, ast.Compare), at)
        for name, node in nodes(ast.FunctionDef):
            for around, _ in self.calls_in(node, ["set"]):
                if isinstance(around, ast.Assign):
                    self.check_kept_set(node, around.targets[0].id)

    def check_kept_set(self, function, kept):
        """The variable is assigned once, and each time that it is read it stands behind `in`."""
        names = [node for node in ast.walk(function) if isinstance(node, ast.Name) and node.id == kept]
        behind_in = [node.comparators[0] for node in ast.walk(function) if isinstance(node, ast.Compare)
                     and isinstance(node.ops[0], (ast.In, ast.NotIn))]
        self.assertEqual(len([node for node in names if isinstance(node.ctx, ast.Store)]), 1, kept)
        for node in names:
            if isinstance(node.ctx, ast.Load):
                self.assertIn(node, behind_in, (function.name, kept))

    def test_values(self):
        """L7, L27: no floats, no division, no percent sign in a string; L17: barred words."""
        for name, node in nodes(ast.Constant):
            self.assertNotIsInstance(node.value, float, name)
            if isinstance(node.value, str):
                self.assertNotIn("%", node.value, name)
        self.assertEqual(nodes((ast.Div, ast.Set, ast.SetComp, ast.Lambda)), [])
        for name, source in FILES.items():
            self.assertIsNone(BARRED.search(source), name)


if __name__ == "__main__":
    unittest.main()
