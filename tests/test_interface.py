"""The interface: where its names are defined, and how the package is written."""

import ast
import unittest
from importlib import import_module
from inspect import Parameter, signature
from pathlib import Path

import readorder

FOLDER = Path(readorder.__file__).parent
FUNCTIONS = {
    "logs": {
        "is_log": ["thing"],
        "is_logs": ["thing"],
        "value_in": ["log", "cell"],
        "cells_in": ["logs"],
        "shared_cells": ["logs"],
        "agreeing": ["logs", "known"],
        "differing": ["one", "other"],
    },
    "readers": {
        "is_reader": ["thing"],
        "logs_of": ["reader"],
        "is_reader_of": ["logs", "thing"],
        "follow": ["reader", "known"],
    },
    "groups": {
        "splitting_cells": ["logs"],
        "is_stuck": ["logs"],
        "blocks": ["logs"],
        "has_reader": ["logs"],
        "stuck_group": ["logs"],
        "is_minimal_stuck": ["logs", "thing"],
        "reader_for": ["logs", "*prefer"],
    },
    "orders": {
        "next_cells": ["logs", "log", "done"],
        "is_order": ["logs", "log", "thing"],
        "count_orders": ["logs", "log"],
        "closure": ["logs", "log", "avoid"],
        "precedence": ["logs", "log"],
        "rounds": ["logs", "log"],
    },
    "evidence": {
        "order_against": ["logs", "log", "first", "later"],
        "evidence_of": ["logs", "log", "first", "later"],
        "shows_precedence": ["logs", "log", "first", "later", "thing"],
        "orders_fit": ["logs", "orders"],
        "reader_with": ["logs", "orders"],
    },
    "certain": {
        "is_snapshot": ["logs", "thing"],
        "hit": ["logs", "snapshot"],
        "certain_reads": ["logs", "snapshot"],
        "possible_reads": ["logs", "snapshot"],
    },
    "avoiding": {
        "avoiding": ["logs", "snapshot", "cell"],
        "shows_avoided": ["logs", "snapshot", "cell", "thing"],
        "evidence_certain": ["logs", "snapshot", "cell"],
        "shows_certain": ["logs", "snapshot", "cell", "thing"],
    },
    "adding": {
        "can_add": ["logs", "log"],
        "against": ["logs", "log"],
    },
    "swaps": {
        "node_at": ["reader", "place"],
        "can_swap": ["reader", "place"],
        "swapped": ["reader", "place"],
        "after_swaps": ["reader", "swaps"],
        "swaps_between": ["one", "other"],
        "shows_swaps": ["one", "other", "thing"],
    },
    "counting": {
        "count_readers": ["logs"],
        "covered": ["logs", "sizes"],
        "is_complete": ["logs", "sizes"],
    },
    "joining": {
        "joined": ["one", "other"],
        "join_source": ["one", "other", "log"],
        "inlined": ["outer", "cell", "results"],
        "inline_source": ["outer", "cell", "results", "log"],
    },
    "texts": {
        "show_log": ["log"],
        "show_logs": ["logs"],
        "show_reader": ["reader"],
        "parse_log": ["text"],
        "parse_logs": ["text"],
        "parse_reader": ["text"],
    },
}
# The class of each module, with its methods.
CLASSES = {
    "recorder": ("Recorder", {
        "__init__": ["self", "logs"],
        "add": ["self", "log"],
        "add_all": ["self", "logs", "*keep"],
        "drop": ["self", "log"],
        "undo": ["self"],
        "actions": ["self"],
        "logs": ["self"],
        "reader": ["self", "*prefer"],
        "trial": ["self", "action"],
        "clone": ["self"],
        "__len__": ["self"],
        "__eq__": ["self", "other"],
    }),
    "desk": ("Desk", {
        "__init__": ["self"],
        "say": ["self", "line"],
    }),
}
# What LANGUAGE.md (L2, "The library") allows beside the package.
LIBRARY = {"heapq", "math", "itertools"}


def taken(function):
    """The arguments of a function, with a star before those that are taken by name only."""
    parameters = signature(function).parameters.values()
    return [("*" if given.kind == Parameter.KEYWORD_ONLY else "") + given.name for given in parameters]


def sources():
    """The (name, text) pairs of all files of the package."""
    return [(path.name, path.read_text(encoding="utf-8")) for path in sorted(FOLDER.glob("*.py"))]


class InterfaceTest(unittest.TestCase):
    def test_functions_and_their_arguments(self):
        for module_name, functions in FUNCTIONS.items():
            module = import_module(f"readorder.{module_name}")
            for name, arguments in functions.items():
                with self.subTest(name=name):
                    function = getattr(module, name)
                    self.assertEqual(function.__module__, module.__name__)
                    self.assertEqual(taken(function), arguments)

    def test_classes_and_their_methods(self):
        for module_name, (name, methods) in CLASSES.items():
            module = import_module(f"readorder.{module_name}")
            found = getattr(module, name)
            self.assertEqual(found.__module__, module.__name__)
            for method, arguments in methods.items():
                with self.subTest(name=name, method=method):
                    # Defined in the class itself, not only in a base class.
                    self.assertIn(method, vars(found))
                    self.assertEqual(taken(vars(found)[method]), arguments)


class WritingTest(unittest.TestCase):
    def test_only_plain_python_files(self):
        names = [path.name for path in FOLDER.iterdir() if path.name != "__pycache__"]
        self.assertIn("__init__.py", names)
        for name in names:
            self.assertRegex(name, "^[a-z_][a-z0-9_]*[.]py$")

    def test_sizes_and_signs(self):
        for name, text in sources():
            with self.subTest(name=name):
                self.assertLessEqual(len(text.splitlines()), 399)
                self.assertLessEqual(max(len(line) for line in text.splitlines()), 120)
                self.assertLessEqual(set(text), {chr(number) for number in range(32, 127)} | {"\n"})

    def test_short_functions(self):
        for name, text in sources():
            for node in ast.walk(ast.parse(text)):
                if isinstance(node, ast.FunctionDef):
                    with self.subTest(name=name, function=node.name):
                        self.assertLessEqual(node.end_lineno - node.lineno + 1, 40)

    def test_imports_from_the_package_only(self):
        for name, text in sources():
            for node in ast.walk(ast.parse(text)):
                with self.subTest(name=name):
                    self.assertNotIsInstance(node, ast.Import)
                    if isinstance(node, ast.ImportFrom) and node.module not in LIBRARY:
                        self.assertTrue(node.module.startswith("readorder."), node.module)


if __name__ == "__main__":
    unittest.main()
