"""Promises 3 and 20: the interface as it is listed, and what the files are made of."""

import ast
import importlib
import inspect
import unittest
from pathlib import Path

import stillfound

FOLDER = Path(stillfound.__file__).parent

FUNCTIONS = {
    "webs": {"is_web": ["thing"], "finds": ["web"], "pieces": ["web"], "knots": ["web"]},
    "deeds": {
        "is_standing": ["thing"], "found": ["standing"],
        "fault": ["standing", "row", "turning"], "behind": ["standing", "row", "turning"],
    },
}

# Beside the package's own modules: these of the library do nothing but work on values.
LIBRARY = ("heapq", "math", "itertools", "collections", "__future__")


def sources():
    """The name and the text of each file of the package."""
    return [(path.name, path.read_text(encoding="utf-8")) for path in sorted(FOLDER.glob("*.py"))]


class InterfaceTest(unittest.TestCase):
    def test_functions_stand_where_they_are_listed(self):
        for module, functions in FUNCTIONS.items():
            loaded = importlib.import_module(f"stillfound.{module}")
            for name, arguments in functions.items():
                with self.subTest(name):
                    function = getattr(loaded, name)
                    self.assertTrue(inspect.isfunction(function))
                    self.assertEqual(function.__module__, loaded.__name__)
                    self.assertEqual(list(inspect.signature(function).parameters), arguments)


class FilesTest(unittest.TestCase):
    def test_sizes_and_signs(self):
        for name, text in sources():
            with self.subTest(name):
                self.assertEqual({sign for sign in text if not (" " <= sign <= "~" or sign == "\n")}, set())
                self.assertLessEqual(len(text.splitlines()), 399)
                self.assertLessEqual(max(map(len, text.splitlines())), 120)
                for node in ast.walk(ast.parse(text)):
                    if isinstance(node, ast.FunctionDef):
                        self.assertLessEqual(node.end_lineno - node.lineno + 1, 40, node.name)

    def test_imports(self):
        for name, text in sources():
            with self.subTest(name):
                for node in ast.walk(ast.parse(text)):
                    self.assertNotIsInstance(node, ast.Import)
                    if isinstance(node, ast.ImportFrom):
                        self.assertIn(node.module.split(".")[0], ("stillfound", *LIBRARY))

    def test_nothing_else_in_the_folder(self):
        others = [path.name for path in FOLDER.iterdir() if path.suffix != ".py"]
        self.assertEqual([name for name in others if name != "__pycache__"], [])


if __name__ == "__main__":
    unittest.main()
