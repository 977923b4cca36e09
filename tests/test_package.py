"""Promises 3 and 20: the interface as it is listed, and what the files are made of."""

import ast
import importlib
import inspect
import unittest
from pathlib import Path

import stillfound

FOLDER = Path(stillfound.__file__).parent

FUNCTIONS = {
    "webs": {"is_web": ["thing"], "finds": ["web"], "pieces": ["web"], "knots": ["web"]},
    "deeds": {
        "is_standing": ["thing"], "found": ["standing"],
        "fault": ["standing", "row", "turning"], "behind": ["standing", "row", "turning"],
    },
    "wishes": {
        "leads": ["web", "wish", "turning"], "is_script": ["web", "wish", "turning", "thing"],
        "script": ["web", "wish", "turning"], "full": ["web", "wish"], "lack": ["web", "wish"],
        "fewest": ["web", "wish", "turning"],
    },
    "kinship": {
        "are_kin": ["one", "other"], "least_cards": ["web"], "least_web": ["web"], "kin": ["web"],
    },
    "rules": {
        "small_web": ["rule", "shape"], "lost": ["rule"], "lost_web": ["rule"],
        "is_lost": ["rule", "thing"], "as_deeds": ["rule", "shape"],
        "taken": ["function", "most"], "levelling": ["most"],
    },
    "allruns": {
        "rests": ["web", "rules"], "endless": ["web", "rules"], "is_endless": ["web", "rules", "thing"],
        "sure": ["web", "rules"],
    },
    "allposts": {
        "strand": ["web", "rules", "notes"], "is_strand": ["web", "rules", "notes", "thing"],
        "is_straight": ["web"], "hops": ["web", "u", "t"], "farthest": ["web"], "fewest_far": ["many", "most"],
    },
    "farewells": {"is_spare": ["standing", "x"], "spare": ["web"], "farewell": ["standing", "x"]},
    "journals": {"journal": ["town"], "recovered": ["web", "rules", "guide", "text"]},
    "vanishing": {"firm": ["web", "k"], "weak": ["web", "k"], "greatest_firm": ["web"]},
    "texts": {"web_text": ["web"], "row_text": ["row"], "read_web": ["text"], "read_row": ["text"]},
}

TOWN = {
    "act": ["u"], "come": ["v", "w"], "deed": ["deed"], "enter": ["friend", "rule"], "web": [],
    "letters": [], "found": [], "rests": [], "settle": ["most"], "log": [], "back": [], "copy": [],
}

# For each class the arguments with which it is made, and its methods with theirs.
CLASSES = {
    "rules": {"Rule": (["most", "rows"], {"table": [], "__eq__": ["other"]})},
    "town": {"Town": (["web", "rules"], TOWN)},
    "post": {
        "Post": (["web", "rules"], {
            **TOWN, "send": ["u", "t"], "carry": ["number"], "land": ["number"], "notes": [], "delivered": [],
        }),
    },
    "register": {
        "Register": (["many"], {
            "put": ["u", "w"], "cut": ["u", "w"], "pocket": ["u"], "finds": ["u"], "cards": [], "pieces": [],
            "knots": [], "log": [], "back": [], "copy": [],
        }),
    },
}

# Beside the package's own modules: these of the library do nothing but work on values.
LIBRARY = ("heapq", "math", "itertools", "collections", "__future__")


def sources():
    """The name and the text of each file of the package."""
    return [(path.name, path.read_text(encoding="utf-8")) for path in sorted(FOLDER.glob("*.py"))]


class InterfaceTest(unittest.TestCase):
    def test_functions_stand_where_they_are_listed(self):
        for module, functions in FUNCTIONS.items():
            loaded = importlib.import_module(f"stillfound.{module}")
            for name, arguments in functions.items():
                with self.subTest(name):
                    function = getattr(loaded, name)
                    self.assertTrue(inspect.isfunction(function))
                    self.assertEqual(function.__module__, loaded.__name__)
                    self.assertEqual(list(inspect.signature(function).parameters), arguments)

    def test_classes_and_their_methods_stand_where_they_are_listed(self):
        for module, classes in CLASSES.items():
            loaded = importlib.import_module(f"stillfound.{module}")
            for name, (made_with, methods) in classes.items():
                made = getattr(loaded, name)
                self.assertTrue(inspect.isclass(made))
                self.assertEqual(made.__module__, loaded.__name__)
                for method, arguments in {"__init__": made_with, **methods}.items():
                    with self.subTest(name, method=method):
                        function = vars(made)[method]
                        self.assertEqual(list(inspect.signature(function).parameters), ["self", *arguments])


class FilesTest(unittest.TestCase):
    def test_sizes_and_signs(self):
        for name, text in sources():
            with self.subTest(name):
                self.assertEqual({sign for sign in text if not (" " <= sign <= "~" or sign == "\n")}, set())
                self.assertLessEqual(len(text.splitlines()), 399)
                self.assertLessEqual(max(map(len, text.splitlines())), 120)
                for node in ast.walk(ast.parse(text)):
                    if isinstance(node, ast.FunctionDef):
                        self.assertLessEqual(node.end_lineno - node.lineno + 1, 40, node.name)

    def test_imports(self):
        for name, text in sources():
            with self.subTest(name):
                for node in ast.walk(ast.parse(text)):
                    self.assertNotIsInstance(node, ast.Import)
                    if isinstance(node, ast.ImportFrom):
                        self.assertIn(node.module.split(".")[0], ("stillfound", *LIBRARY))

    def test_nothing_else_in_the_folder(self):
        others = [path.name for path in FOLDER.iterdir() if path.suffix != ".py"]
        self.assertEqual([name for name in others if name != "__pycache__"], [])


if __name__ == "__main__":
    unittest.main()
