"""The interface that has landed stands in its files; the files keep the plain rules of form."""

import ast
import os
import unittest

PACKAGE = os.path.join(os.path.dirname(os.path.dirname(os.path.abspath(__file__))), "pleatpunch")

INTERFACE = {
    "errors.py": {name: None for name in (
        "NoText", "NoFolds", "NoWish", "NoPlace", "NoCell", "Whole", "NoMark", "NoList",
        "Torn", "NoPlan", "TooMany")},
    "strips.py": {
        "read": ["text"], "written": ["strip"], "glued": ["one", "other"],
        "parted": ["strip", "cell"], "turned": ["strip"]},
    "foldings.py": {
        "is_folding": ["many", "folds"], "places": ["many", "folds"],
        "cells_at": ["many", "folds", "place"], "stacks": ["many", "folds"]},
    "punches.py": {
        "can_be": ["many", "cells"], "odd_ones": ["cells"], "least_folding": ["many", "cells"],
        "counted": ["many", "cells"], "all_foldings": ["many", "cells"], "creased": ["many", "cells"],
        "ways": ["many", "plan"]},
    "wishes.py": {
        "fewest": ["strip", "wish"], "plan": ["strip", "wish"], "tight": ["strip", "wish"],
        "worth": ["strip", "wish", "stretch"], "is_plan": ["strip", "wish", "plan"]},
    "wear.py": {name: ["strip", "wish"] for name in ("all_tight", "cheaper", "dearer", "helpful")},
    "seen.py": {"fewest_seen": ["counts"], "made": ["counts", "many"]},
    "paper.py": {"Paper": {
        "__init__": ["many", "left"], "punch": ["folds", "place"], "patch": ["cell"], "do": ["wish"], "mark": [],
        "undo": ["mark"], "strip": [], "fewest": ["wish"], "counts": []}},
    "rings.py": {
        "is_ring_folding": ["many", "folds"], "ring_can_be": ["many", "cells"],
        "is_ring_plan": ["ring", "wish", "plan"], "ring_places": ["many", "folds"],
        "ring_least_folding": ["many", "cells"], "ring_counted": ["many", "cells"],
        "ring_fewest": ["ring", "wish"], "ring_plan": ["ring", "wish"], "ring_tight": ["ring", "wish"],
        "ring_worth": ["ring", "wish", "stretch"]},
    "far.py": {"far_fewest": ["runs"], "far_tight": ["runs"]},
    "sessions.py": {"session": ["rows"]},
}
LIBRARY = ("heapq", "math", "itertools", "collections")


def source(name):
    with open(os.path.join(PACKAGE, name), encoding="utf-8") as file:
        return file.read()


def file_names():
    return sorted(name for name in os.listdir(PACKAGE) if name != "__pycache__")


def arguments_of(rows):
    """Of each function that is defined in the rows the names of its arguments."""
    return {row.name: [argument.arg for argument in row.args.args] for row in rows if isinstance(row, ast.FunctionDef)}


class InterfaceTest(unittest.TestCase):
    def test_each_name_is_defined_in_its_file(self):
        for name, listed in INTERFACE.items():
            rows = ast.parse(source(name)).body
            classes = {row.name: row for row in rows if isinstance(row, ast.ClassDef)}
            functions = arguments_of(rows)
            for word, arguments in listed.items():
                if isinstance(arguments, list):
                    self.assertEqual(functions.get(word), arguments, word)
                else:
                    self.assertIn(word, classes)
                if isinstance(arguments, dict):
                    methods = arguments_of(classes[word].body)
                    for method, others in arguments.items():
                        self.assertEqual(methods.get(method), ["self", *others], method)
                    # Nothing else is shown, and nothing is inherited.
                    self.assertEqual([one for one in methods if one not in arguments and not one.startswith("_")], [])
                    self.assertEqual(classes[word].bases, [])


class FormTest(unittest.TestCase):
    def test_only_source_files(self):
        self.assertIn("__init__.py", file_names())
        for name in file_names():
            self.assertRegex(name, "^[a-z0-9_]+[.]py$")

    def test_signs_and_sizes(self):
        for name in file_names():
            text = source(name)
            self.assertEqual([sign for sign in text if sign != "\n" and not " " <= sign <= "~"], [])
            rows = text.split("\n")
            self.assertLess(len(rows), 400)
            self.assertLessEqual(max(len(row) for row in rows), 120)

    def test_functions_are_short_and_undecorated(self):
        for name in file_names():
            for node in ast.walk(ast.parse(source(name))):
                if isinstance(node, ast.FunctionDef):
                    self.assertLessEqual(node.end_lineno - node.lineno + 1, 40, node.name)
                if isinstance(node, ast.ClassDef):
                    self.assertEqual(node.decorator_list, [])

    def test_imports(self):
        for name in file_names():
            tree = ast.parse(source(name))
            for node in ast.walk(tree):
                self.assertNotIsInstance(node, ast.Import)
                if isinstance(node, ast.ImportFrom):
                    self.assertIn(node, tree.body)
                    self.assertEqual(node.level, 0)
                    self.assertTrue(node.module.startswith("pleatpunch.") or node.module in LIBRARY)
                    self.assertNotIn("*", [alias.name for alias in node.names])


if __name__ == "__main__":
    unittest.main()
