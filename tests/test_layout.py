"""The package as a whole: its files, where the interface is defined, and the examples of README.md."""

import ast
import doctest
import inspect
import os
import unittest

from bothlots import (behind, chains, checks, desk, growth, hangs, keys, ledgers, pages, papers, programs, rules, runs,
                      shares, shelves, tables, touches, words)

ROOT = os.path.dirname(os.path.dirname(os.path.abspath(__file__)))
PACKAGE = os.path.join(ROOT, "bothlots")

# The functions of the interface by their files, with their parameters.
FUNCTIONS = (
    (words, "is_name", "(value)"),
    (words, "is_number", "(value, least, most)"),
    (checks, "is_test", "(value)"),
    (checks, "test_text", "(test)"),
    (checks, "read_test", "(text)"),
    (checks, "holds", "(test, row)"),
    (rules, "settles", "(program, columns)"),
    (rules, "signs", "(program)"),
    (rules, "looks", "(program)"),
    (rules, "reaches", "(program, look, at)"),
    (rules, "last_looks", "(program)"),
    (rules, "forced", "(program, look, other, columns)"),
    (rules, "parts", "(program, columns)"),
    (touches, "split", "(program, thing)"),
    (chains, "starts", "(program)"),
    (chains, "links", "(program, worth, state)"),
    (chains, "crosses", "(program, state, lot)"),
    (hangs, "leak", "(program, worth, lot)"),
    (growth, "grown", "(program, kind)"),
    (shares, "span", "(program, number)"),
    (keys, "settled", "(program, *things)"),
    (keys, "parting", "(run, *things)"),
    (keys, "chain", "(run, one, other, *things)"),
    (behind, "movable", "(program)"),
    (behind, "moved", "(program, *steps)"),
    (behind, "least_moves", "(program, worth, *, lot=None)"),
    (pages, "write_page", "(shelf)"),
    (pages, "read_page", "(text)"),
    (pages, "columns_page", "(tables)"),
)

# The classes of the interface by their files, with their parameters, and their methods and properties with theirs.
CLASSES = (
    (programs, "Program", "(main, steps, *, sides=(), unique=())", {
        "read": "(text)", "text": "(self)", "main": None, "steps": None, "sides": None, "unique": None, "cut_at": None,
        "many": None, "step": "(self, at)", "columns": "(self, at=None)", "columns_of": "(self, kind)",
        "__contains__": "(self, column)", "__eq__": "(self, other)", "__len__": "(self)", "__repr__": "(self)"}),
    (tables, "Tables", "(program, rows, sides=None)", {
        "basis": None, "rows": "(self)", "side": "(self, name)", "with_rows": "(self, *rows)",
        "with_row": "(self, row, *, at=None)", "__eq__": "(self, other)", "__len__": "(self)", "__repr__": "(self)"}),
    (tables, "Setting", "(marks=None, *, throws=())", {"mark": "(self, values)", "throw": "(self, place)"}),
    (runs, "Run", "(program, tables, setting=None)", {
        "basis": None, "at_cut": "(self)", "rows": "(self)", "lots": "(self, own, *, ended=True)",
        "value": "(self, number, column)", "hangs_on": "(self, number, worth)", "alike": "(self, thing)",
        "leak": "(self, worth, lot)", "__len__": "(self)", "__repr__": "(self)"}),
    (papers, "Paper", "(program)", {
        "basis": None, "told": "(self)", "holds": "(self)", "__bool__": "(self)", "__repr__": "(self)"}),
    (touches, "Split", "(program, thing, tables, setting)", {
        "basis": None, "thing": None, "tables": None, "setting": None, "told": "(self)", "holds": "(self)",
        "run": "(self)", "__bool__": "(self)", "__repr__": "(self)"}),
    (touches, "Whole", "(program, thing, meets)", {
        "basis": None, "thing": None, "meets": None, "told": "(self)", "holds": "(self)", "__bool__": "(self)",
        "__repr__": "(self)"}),
    (hangs, "Leak", "(program, worth, lot, tables, setting, way)", {
        "basis": None, "worth": None, "lot": None, "tables": None, "setting": None, "way": None, "told": "(self)",
        "holds": "(self)", "run": "(self)", "__bool__": "(self)", "__repr__": "(self)"}),
    (hangs, "Tight", "(program, worth, lot, states)", {
        "basis": None, "worth": None, "lot": None, "states": None, "told": "(self)", "holds": "(self)",
        "__bool__": "(self)", "__repr__": "(self)"}),
    (growth, "Moves", "(program, growth, tables, setting, newcomer, place, own)", {
        "basis": None, "growth": None, "tables": None, "setting": None, "newcomer": None, "place": None, "own": None,
        "told": "(self)", "holds": "(self)", "__bool__": "(self)", "__repr__": "(self)"}),
    (growth, "Stays", "(program, growth, reason)", {
        "basis": None, "growth": None, "reason": None, "told": "(self)", "holds": "(self)", "__bool__": "(self)",
        "__repr__": "(self)"}),
    (ledgers, "Ledger", "(*things)", {
        "offer": "(self, row)", "add": "(self, row, *, side=None)", "things": "(self)", "row": "(self, number)",
        "side": "(self, number)", "group": "(self, number)", "chain": "(self, one, other)", "tally": "(self, lot)",
        "walk": "(self, lot)", "undo": "(self)", "redo": "(self)", "history": "(self)", "twin": "(self)",
        "__getitem__": "(self, number)", "__eq__": "(self, other)", "__len__": "(self)", "__repr__": "(self)"}),
    (shelves, "Shelf", "(*, limit=8)", {
        "limit": None, "set_limit": "(self, value)", "apply": "(self, *commands)", "undo": "(self)", "redo": "(self)",
        "history": "(self)", "busy": None, "names": "(self)", "program": "(self, name)", "splits": "(self, name, *thing)",
        "leaks": "(self, name, worth, *, lot='learn')", "moves": "(self, name, growth)", "kept": "(self)", "computed": None,
        "twin": "(self)", "__contains__": "(self, name)", "__eq__": "(self, other)", "__len__": "(self)", "__repr__": "(self)"}),
    (desk, "Desk", "(*, shelf=None)", {
        "say": "(self, line)", "__call__": "(self, line)", "shelf": "(self)", "log": "(self)", "__len__": "(self)",
        "__repr__": "(self)"}),
)


def sources():
    """The pairs of a file of the package and its text."""
    for name in sorted(os.listdir(PACKAGE)):
        if name.endswith(".py"):
            with open(os.path.join(PACKAGE, name), encoding="utf-8") as file:
                yield name, file.read()


class FilesTest(unittest.TestCase):
    def test_only_files_of_python(self):
        for name in os.listdir(PACKAGE):
            if name != "__pycache__":
                self.assertRegex(name, "^[a-z0-9_]+[.]py$")

    def test_sizes_and_characters(self):
        for name, text in sources():
            with self.subTest(name):
                lines = text.split("\n")
                self.assertLessEqual(len(lines), 399)
                self.assertLessEqual(max(map(len, lines)), 120)
                self.assertEqual([sign for sign in text if sign != "\n" and not " " <= sign <= "~"], [])

    def test_functions_are_small(self):
        for name, text in sources():
            for node in ast.walk(ast.parse(text)):
                if isinstance(node, ast.FunctionDef):
                    self.assertLessEqual(node.end_lineno - node.lineno + 1, 40, f"{name}: {node.name}")

    def test_imports_from_the_package_alone(self):
        outside = ("heapq", "math", "itertools", "collections", "__future__")
        for name, text in sources():
            for node in ast.walk(ast.parse(text)):
                self.assertNotIsInstance(node, ast.Import, name)
                if isinstance(node, ast.ImportFrom):
                    self.assertEqual(node.level, 0, name)
                    self.assertTrue(node.module in outside or node.module.startswith("bothlots."), node.module)


class InterfaceTest(unittest.TestCase):
    def test_functions(self):
        for module, name, parameters in FUNCTIONS:
            with self.subTest(name):
                function = getattr(module, name)
                self.assertEqual(function.__module__, module.__name__)
                self.assertEqual(str(inspect.signature(function)), parameters)

    def test_classes(self):
        for module, name, parameters, members in CLASSES:
            kind = getattr(module, name)
            self.assertEqual(kind.__module__, module.__name__)
            self.assertEqual(str(inspect.signature(kind)), parameters)
            for member, expected in members.items():
                with self.subTest(f"{name}.{member}"):
                    self.assertIn(member, vars(kind))
                    if expected is None:
                        self.assertIsInstance(vars(kind)[member], property)
                    else:
                        # A static method is read off the class as it is called.
                        self.assertEqual(str(inspect.signature(getattr(kind, member))), expected)


class ReadmeTest(unittest.TestCase):
    def test_examples(self):
        failed, tried = doctest.testfile(os.path.join(ROOT, "README.md"), module_relative=False, encoding="utf-8")
        self.assertEqual(failed, 0)
        self.assertGreater(tried, 0)


if __name__ == "__main__":
    unittest.main()
