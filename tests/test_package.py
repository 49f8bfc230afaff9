"""[Z3] and the plain rules for files: what the package contains, and under which names."""

import ast
import importlib
import inspect
import pathlib
import unittest

FOLDER = pathlib.Path(__file__).resolve().parent.parent / "frankmarks"

FUNCTIONS = {
    "forms": {
        "is_row": ["value"], "is_menu": ["value"], "menu_error": ["value"], "is_belief": ["menu", "value"],
        "belief_of": ["counts"], "gain": ["menu", "word", "belief"], "worth": ["menu", "belief"],
        "best": ["menu", "belief"],
    },
    "texts": {
        "row_text": ["row"], "menu_text": ["menu"], "belief_text": ["belief"], "parse_row": ["value"],
        "parse_menu": ["value"], "parse_belief": ["value"],
    },
    "cells": {
        "corners": ["menu", "word"], "border": ["menu", "one", "other"], "cell_kind": ["menu", "word"],
        "inner": ["menu", "word"], "parted": ["menu", "one", "other"],
    },
    "papers": {
        "stand": ["menu", "word"], "stand_holds": ["menu", "word", "value"], "reach": ["menu", "word"],
        "reach_holds": ["menu", "word", "value"], "useful": ["menu"], "compare": ["one", "other"],
        "compare_holds": ["one", "other", "value"], "under": ["one", "other"], "under_holds": ["one", "other", "value"],
    },
    "lies": {
        "loss": ["menu", "said", "belief"], "lie": ["menu", "word", "said"], "greatest_loss": ["menu", "said"],
        "steady": ["menu"], "calm": ["menu"], "calm_holds": ["menu", "value"], "plain": ["menu"],
        "like": ["one", "other"],
    },
    "pairs": {
        "book_error": ["value"], "is_book": ["value"], "book_of": ["menu"], "same_book": ["one", "other"],
        "says": ["book", "one", "other", "belief"], "order_at": ["book", "belief"], "find_round": ["book"],
        "round_holds": ["book", "value"], "find_marks": ["book"], "marks_holds": ["book", "value"], "freedom": ["book"],
    },
}

LIBRARY = {"math": ("gcd", "lcm", "isqrt", "comb", "perm", "factorial")}


def package_files():
    return sorted(path for path in FOLDER.rglob("*") if path.is_file() and "__pycache__" not in path.parts)


class Interface(unittest.TestCase):
    def test_each_function_is_defined_in_its_module(self):
        for module, functions in FUNCTIONS.items():
            loaded = importlib.import_module("frankmarks." + module)
            for name, parameters in functions.items():
                with self.subTest(name):
                    function = getattr(loaded, name)
                    self.assertEqual(function.__module__, "frankmarks." + module)
                    self.assertEqual(list(inspect.signature(function).parameters), parameters)


class Files(unittest.TestCase):
    def test_only_python_files_with_plain_signs_and_short_lines(self):
        for path in package_files():
            with self.subTest(path.name):
                self.assertEqual(path.suffix, ".py")
                text = path.read_text("ascii")
                self.assertLessEqual(set(text), set("\n" + "".join(map(chr, range(32, 127)))))
                self.assertLessEqual(len(text.splitlines()), 399)
                self.assertLessEqual(max(map(len, text.splitlines()), default=0), 120)

    def test_functions_are_small(self):
        for path in package_files():
            for node in ast.walk(ast.parse(path.read_text("ascii"))):
                if isinstance(node, ast.FunctionDef):
                    with self.subTest(node.name):
                        self.assertLessEqual(node.end_lineno - node.lineno + 1, 40)

    def test_imports_name_the_file_that_defines_the_name(self):
        for path in package_files():
            for node in ast.walk(ast.parse(path.read_text("ascii"))):
                self.assertNotIsInstance(node, ast.Import)
                if isinstance(node, ast.ImportFrom):
                    with self.subTest(path.name, module=node.module):
                        self.check_import(node)

    def check_import(self, node):
        names = [alias.name for alias in node.names]
        if node.module in LIBRARY:
            self.assertLessEqual(set(names), set(LIBRARY[node.module]))
            return
        self.assertTrue(node.module.startswith("frankmarks."))
        source = FOLDER / (node.module.split(".", 1)[1] + ".py")
        self.assertLessEqual(set(names), defined_names(ast.parse(source.read_text("ascii"))))


def defined_names(tree):
    names = set()
    for node in tree.body:
        if isinstance(node, (ast.FunctionDef, ast.ClassDef)):
            names.add(node.name)
        elif isinstance(node, ast.Assign):
            names.update(target.id for target in node.targets)
    return names


if __name__ == "__main__":
    unittest.main()
