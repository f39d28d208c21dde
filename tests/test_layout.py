"""The package as a whole: its files, where the interface is defined, and the examples of README.md."""

import ast
import doctest
import inspect
import os
import unittest

from bothlots import checks, words

ROOT = os.path.dirname(os.path.dirname(os.path.abspath(__file__)))
PACKAGE = os.path.join(ROOT, "bothlots")

# The functions of the interface by their files, with their parameters.
FUNCTIONS = (
    (words, "is_name", "(value)"),
    (words, "is_number", "(value, least, most)"),
    (checks, "is_test", "(value)"),
    (checks, "test_text", "(test)"),
    (checks, "read_test", "(text)"),
    (checks, "holds", "(test, row)"),
)


def sources():
    """The pairs of a file of the package and its text."""
    for name in sorted(os.listdir(PACKAGE)):
        if name.endswith(".py"):
            with open(os.path.join(PACKAGE, name), encoding="utf-8") as file:
                yield name, file.read()


class FilesTest(unittest.TestCase):
    def test_only_files_of_python(self):
        for name in os.listdir(PACKAGE):
            if name != "__pycache__":
                self.assertRegex(name, "^[a-z0-9_]+[.]py$")

    def test_sizes_and_characters(self):
        for name, text in sources():
            with self.subTest(name):
                lines = text.split("\n")
                self.assertLessEqual(len(lines), 399)
                self.assertLessEqual(max(map(len, lines)), 120)
                self.assertEqual([sign for sign in text if sign != "\n" and not " " <= sign <= "~"], [])

    def test_functions_are_small(self):
        for name, text in sources():
            for node in ast.walk(ast.parse(text)):
                if isinstance(node, ast.FunctionDef):
                    self.assertLessEqual(node.end_lineno - node.lineno + 1, 40, f"{name}: {node.name}")

    def test_imports_from_the_package_alone(self):
        outside = ("heapq", "math", "itertools", "collections", "__future__")
        for name, text in sources():
            for node in ast.walk(ast.parse(text)):
                self.assertNotIsInstance(node, ast.Import, name)
                if isinstance(node, ast.ImportFrom):
                    self.assertEqual(node.level, 0, name)
                    self.assertTrue(node.module in outside or node.module.startswith("bothlots."), node.module)


class InterfaceTest(unittest.TestCase):
    def test_functions(self):
        for module, name, parameters in FUNCTIONS:
            with self.subTest(name):
                function = getattr(module, name)
                self.assertEqual(function.__module__, module.__name__)
                self.assertEqual(str(inspect.signature(function)), parameters)


class ReadmeTest(unittest.TestCase):
    def test_examples(self):
        failed, tried = doctest.testfile(os.path.join(ROOT, "README.md"), module_relative=False, encoding="utf-8")
        self.assertEqual(failed, 0)
        self.assertGreater(tried, 0)


if __name__ == "__main__":
    unittest.main()
