"""The plainest of the rules that the package's code keeps to; what they can't show is for a reader."""

import ast
import pathlib
import re
import unittest

import touchtree

FOLDER = pathlib.Path(touchtree.__file__).parent
OUTSIDE = (
    ast.With, ast.Match, ast.Delete, ast.Global, ast.Nonlocal, ast.Assert, ast.Yield, ast.YieldFrom, ast.Await,
    ast.AsyncFunctionDef, ast.AsyncFor, ast.AsyncWith, ast.SetComp, ast.DictComp, ast.GeneratorExp,
    ast.NamedExpr, ast.Starred, ast.Div, ast.Import,
)
OWN_NAMES = """len range enumerate zip min max sum abs sorted reversed int str bool list tuple dict set frozenset
isinstance ord repr any all divmod Exception ValueError KeyError IndexError LookupError ZeroDivisionError
ArithmeticError OverflowError RuntimeError NotImplementedError StopIteration""".split()
WORDS = re.compile(r"\b(type|typing|enum|Enum|Flag|Generic|Protocol|ABC|namedtuple|NamedTuple|TypedDict)\b")


def bound_names(tree):
    """All names that the file itself gives a meaning."""
    names = set()
    for node in ast.walk(tree):
        if isinstance(node, (ast.FunctionDef, ast.ClassDef)):
            names.add(node.name)
        elif isinstance(node, ast.arg):
            names.add(node.arg)
        elif isinstance(node, ast.alias):
            names.add(node.name)
        elif isinstance(node, ast.Name) and isinstance(node.ctx, ast.Store):
            names.add(node.id)
        elif isinstance(node, ast.ExceptHandler) and node.name:
            names.add(node.name)
    return names


def each_file():
    texts = [(path.name, path.read_text(encoding="utf-8")) for path in sorted(FOLDER.glob("*.py"))]
    return [(name, text, ast.parse(text)) for name, text in texts]


def values_of(tree):
    """All names that objects of the file's classes keep something under."""
    return {node.attr for node in ast.walk(tree)
            if isinstance(node, ast.Attribute) and isinstance(node.ctx, ast.Store)}


def methods_of(tree):
    return {node.name for one in ast.walk(tree) if isinstance(one, ast.ClassDef)
            for node in one.body if isinstance(node, ast.FunctionDef)}


def givings_of(tree):
    """All places where an object is given a value: what stands left of the dot."""
    return [node.value for node in ast.walk(tree)
            if isinstance(node, ast.Attribute) and isinstance(node.ctx, ast.Store)]


def top_names(tree):
    """The imports of a file, and all functions, classes and values of its top."""
    names = {node.name for node in tree.body if isinstance(node, (ast.FunctionDef, ast.ClassDef))}
    names |= {node.name for node in ast.walk(tree) if isinstance(node, ast.alias)}
    return names | {target.id for node in tree.body if isinstance(node, ast.Assign) for target in node.targets}


def locals_of(tree):
    """All parameters, and all names that are given a value within a function."""
    names = set()
    for one in ast.walk(tree):
        if isinstance(one, ast.FunctionDef):
            names |= bound_names(one) - {one.name}
    return names


class LanguageTest(unittest.TestCase):
    def test_files_lines_and_signs(self):
        for file, text, tree in each_file():
            with self.subTest(file):
                self.assertRegex(text, r"\A[ -~\n]*\Z")
                self.assertLessEqual(len(text.splitlines()), 400)
                self.assertLessEqual(max(map(len, text.splitlines()), default=0), 120)
                self.assertIsNone(WORDS.search(text))

    def test_functions_are_short_and_plain(self):
        for file, text, tree in each_file():
            with self.subTest(file):
                for node in ast.walk(tree):
                    if isinstance(node, ast.FunctionDef):
                        self.assertLessEqual(node.end_lineno - node.lineno + 1, 40, node.name)
                        self.assertEqual(node.decorator_list, [], node.name)
                        self.assertFalse(node.args.vararg or node.args.kwarg or node.args.kwonlyargs, node.name)

    def test_nothing_outside_the_language(self):
        for file, text, tree in each_file():
            with self.subTest(file):
                for node in ast.walk(tree):
                    self.assertNotIsInstance(node, OUTSIDE)
                    if isinstance(node, ast.Constant):
                        self.assertNotIsInstance(node.value, (float, bytes, complex))
                    if isinstance(node, ast.Assign):
                        self.assertEqual(len(node.targets), 1)

    def test_imports_are_the_packages_own(self):
        for file, text, tree in each_file():
            with self.subTest(file):
                for node in ast.walk(tree):
                    if isinstance(node, ast.ImportFrom) and node.module != "__future__":
                        self.assertEqual(node.level, 0)
                        self.assertTrue(node.module.startswith("touchtree."), node.module)

    def test_names(self):
        for file, text, tree in each_file():
            with self.subTest(file):
                bound = bound_names(tree)
                for name in bound:
                    self.assertTrue(not name.startswith("_") or name.endswith("__"), name)
                    self.assertNotIn(name, OWN_NAMES)
                for node in ast.walk(tree):
                    if isinstance(node, ast.Name):
                        self.assertTrue(node.id in bound or node.id in OWN_NAMES, node.id)

    def test_no_local_is_called_like_an_import_or_a_class(self):
        for file, text, tree in each_file():
            with self.subTest(file):
                taken = {node.name for node in ast.walk(tree) if isinstance(node, (ast.alias, ast.ClassDef))}
                self.assertEqual(locals_of(tree) & taken, set())

    def test_no_name_is_a_method_here_and_a_value_there(self):
        methods, values = set(), set()
        for file, text, tree in each_file():
            methods |= methods_of(tree)
            values |= values_of(tree)
        self.assertEqual(methods & values, set())
        self.assertIn("call", methods)
        self.assertIn("scene", values)

    def test_values_are_given_through_a_local_name(self):
        seen = 0
        for file, text, tree in each_file():
            with self.subTest(file):
                for giver in givings_of(tree):
                    seen += 1
                    self.assertIsInstance(giver, ast.Name, f"row {giver.lineno}")
                    self.assertIn(giver.id, locals_of(tree), f"row {giver.lineno}")
                    self.assertNotIn(giver.id, top_names(tree), f"row {giver.lineno}")
        self.assertGreater(seen, 0)


if __name__ == "__main__":
    unittest.main()
