"""The interface: each name in its file, with its arguments by place; and the errors."""

import ast
import inspect
import pathlib
import unittest
import warnings
from importlib import import_module

from tests.helper import NAMED
from wintold import errors

PACKAGE = pathlib.Path(__file__).resolve().parent.parent / "wintold"

FUNCTIONS = {
    "leagues": {
        "is_league": ["thing"],
        "matches_left": ["league"],
        "points_had": ["league"],
        "is_end": ["league", "points", "thing"],
    },
    "whether": {
        "can_be": ["league", "points"],
        "set_shows": ["league", "points", "thing"],
        "first_set": ["league", "points"],
    },
    "ends": {
        "first_end": ["league", "points"],
        "count_ends": ["league", "points"],
        "end_by": ["league", "points", "number"],
        "number_of": ["league", "points", "thing"],
    },
    "sure": {
        "outcomes_of": ["league", "points", "i", "j"],
        "sure_matches": ["league", "points"],
    },
    "allpoints": {
        "count_points": ["league"],
        "all_points": ["league"],
    },
    "firsts": {
        "can_be_first": ["league", "player"],
        "can_be_first_alone": ["league", "player"],
        "first_end_for": ["league", "player"],
        "least_points": ["league", "player"],
        "most_points": ["league", "player"],
    },
    "texts": {
        "show_league": ["league"],
        "read_league": ["text"],
        "show_points": ["points"],
        "read_points": ["text"],
    },
}
CLASSES = {
    "keeper": {
        "Keeper": {
            "__init__": ["self", "league", "points"],
            "play": ["self", "i", "j", "w"],
            "back": ["self"],
            "league": ["self"],
            "count": ["self"],
            "sure": ["self"],
            "played": ["self"],
        },
    },
    "desk": {
        "Desk": {
            "__init__": ["self"],
            "say": ["self", "row"],
            "names": ["self"],
        },
    },
}
ERRORS = [
    "NoLeague", "NoPoints", "NoNumber", "NoEnd", "NoMatch", "NoOutcome", "NoPlayer", "TooMany", "NoText", "NoName",
    "NoRow",
]


class TestNames(unittest.TestCase):
    def test_functions_stand_in_their_files(self):
        for file, functions in FUNCTIONS.items():
            module = import_module("wintold." + file)
            for name, arguments in functions.items():
                with self.subTest(name):
                    function = getattr(module, name)
                    self.assertTrue(inspect.isfunction(function))
                    self.assertEqual(function.__module__, "wintold." + file)
                    self.assertEqual(list(inspect.signature(function).parameters), arguments)

    def test_classes_stand_in_their_files_with_their_methods(self):
        for file, classes in CLASSES.items():
            module = import_module("wintold." + file)
            for name, methods in classes.items():
                own = getattr(module, name)
                self.assertTrue(inspect.isclass(own))
                self.assertEqual(own.__module__, "wintold." + file)
                for method, arguments in methods.items():
                    with self.subTest(name + " " + method):
                        self.assertTrue(inspect.isfunction(vars(own)[method]))
                        self.assertEqual(list(inspect.signature(vars(own)[method]).parameters), arguments)

    def test_errors_stand_in_their_file(self):
        self.assertEqual([error.__name__ for error in NAMED], ERRORS)
        for name in ["WinError"] + ERRORS:
            self.assertEqual(getattr(errors, name).__module__, "wintold.errors")

    def test_win_error_is_a_value_error(self):
        self.assertEqual(errors.WinError.__bases__, (ValueError,))

    def test_no_named_error_stands_under_another(self):
        for error in NAMED:
            self.assertTrue(issubclass(error, errors.WinError))
            for other in NAMED:
                self.assertEqual(issubclass(error, other), error is other)


class TestForm(unittest.TestCase):
    """What can be told of the files' form at a glance."""

    def texts(self):
        return {path.name: path.read_text(encoding="utf-8") for path in sorted(PACKAGE.glob("*.py"))}

    def test_the_folder_holds_program_files_only(self):
        others = [path.name for path in PACKAGE.iterdir() if path.suffix != ".py" and path.name != "__pycache__"]
        self.assertEqual(others, [])
        self.assertIn("__init__.py", self.texts())

    def test_sizes_and_signs(self):
        for name, text in self.texts().items():
            with self.subTest(name):
                lines = text.split("\n")
                self.assertLessEqual(len(lines) - 1, 399)
                self.assertLessEqual(max(len(line) for line in lines), 120)
                self.assertTrue(all(sign == "\n" or " " <= sign <= "~" for sign in text))

    def test_functions_have_at_most_forty_lines(self):
        for name, text in self.texts().items():
            for node in ast.walk(ast.parse(text)):
                if isinstance(node, ast.FunctionDef):
                    with self.subTest(name + " " + node.name):
                        self.assertLessEqual(node.end_lineno - node.lineno + 1, 40)

    def test_imports_name_the_defining_file(self):
        library = {"heapq", "math", "itertools", "collections"}
        for name, text in self.texts().items():
            for node in ast.walk(ast.parse(text)):
                self.assertNotIsInstance(node, ast.Import, name)
                if isinstance(node, ast.ImportFrom) and node.module not in library:
                    file = PACKAGE / (node.module.removeprefix("wintold.") + ".py")
                    bound = [part for part in ast.parse(file.read_text(encoding="utf-8")).body]
                    names = [part.name for part in bound if isinstance(part, (ast.FunctionDef, ast.ClassDef))]
                    names += [part.targets[0].id for part in bound if isinstance(part, ast.Assign)]
                    for alias in node.names:
                        self.assertIn(alias.name, names, name)

    def test_python_warns_of_nothing(self):
        with warnings.catch_warnings():
            warnings.simplefilter("error")
            for name, text in self.texts().items():
                compile(text, name, "exec")


if __name__ == "__main__":
    unittest.main()
