"""The package's folder, and that the interface stands in the files that list it."""

import ast
import os
import unittest

FOLDER = os.path.join(os.path.dirname(os.path.dirname(os.path.abspath(__file__))), "onewaytown")

# The names that each file of the interface defines, with their arguments.
INTERFACE = {
    "errors": {"TownError": None, "BadCount": None, "BadPlace": None, "BadStreet": None,
               "TooMany": None, "Parted": None, "BadWays": None, "BadText": None},
    "town": {"Town": {"__init__": ["self", "many"], "places": ["self"],
                      "build": ["self", "one", "other"], "dig": ["self", "street"],
                      "streets": ["self"]}},
    "walks": {"reached": ["town", "place"], "parts": ["town"]},
    "parting": {"parting": ["town"], "pieces": ["town"], "ends": ["town"]},
    "handles": {"handles": ["town"]},
    "oneway": {"one_way": ["town"], "is_one_way": ["town", "thing"],
               "round_trip": ["town", "ways"]},
    "building": {"fewest": ["town"]},
    "notes": {"written": ["town"], "read": ["text"]},
}


def texts():
    told = {}
    for name in sorted(os.listdir(FOLDER)):
        if name.endswith(".py"):
            with open(os.path.join(FOLDER, name), encoding="ascii") as file:
                told[name[:-3]] = file.read()
    return told


def arguments(function):
    return [given.arg for given in function.args.args]


class Layout(unittest.TestCase):
    def test_the_folder_holds_files_of_the_program_only(self):
        for name in os.listdir(FOLDER):
            if name != "__pycache__":
                self.assertRegex(name, r"^[a-z_]+\.py$")

    def test_the_interface_stands_in_its_files(self):
        files = texts()
        for name, wanted in INTERFACE.items():
            defined = {row.name: row for row in ast.parse(files[name]).body
                       if isinstance(row, (ast.FunctionDef, ast.ClassDef))}
            for word, told in wanted.items():
                with self.subTest(name=name, word=word):
                    self.assertIn(word, defined)
                    if isinstance(told, list):
                        self.assertEqual(arguments(defined[word]), told)
                    if isinstance(told, dict):
                        methods = {row.name: arguments(row) for row in defined[word].body
                                   if isinstance(row, ast.FunctionDef)}
                        self.assertEqual(methods, methods | told)

    def test_files_import_the_package_only(self):
        for name, text in texts().items():
            for row in ast.walk(ast.parse(text)):
                self.assertNotIsInstance(row, ast.Import, name)
                if isinstance(row, ast.ImportFrom):
                    self.assertTrue(row.module.startswith("onewaytown."), name)
                    self.assertEqual(row.level, 0, name)

    def test_sizes(self):
        for name, text in texts().items():
            rows = text.split("\n")
            self.assertLess(len(rows), 400, name)
            self.assertLessEqual(max(len(row) for row in rows), 120, name)
            self.assertNotIn("\t", text, name)
            for row in ast.walk(ast.parse(text)):
                if isinstance(row, ast.FunctionDef):
                    self.assertLessEqual(row.end_lineno - row.lineno + 1, 40, row.name)


if __name__ == "__main__":
    unittest.main()
