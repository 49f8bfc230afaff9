"""[Z3] and the plain rules for files: what the package contains, and under which names."""

import ast
import builtins
import importlib
import inspect
import pathlib
import unittest

FOLDER = pathlib.Path(__file__).resolve().parent.parent / "frankmarks"

FUNCTIONS = {
    "forms": {
        "is_row": ["value"], "is_menu": ["value"], "menu_error": ["value"], "is_belief": ["menu", "value"],
        "belief_of": ["counts"], "gain": ["menu", "word", "belief"], "worth": ["menu", "belief"],
        "best": ["menu", "belief"],
    },
    "texts": {
        "row_text": ["row"], "menu_text": ["menu"], "belief_text": ["belief"], "parse_row": ["value"],
        "parse_menu": ["value"], "parse_belief": ["value"],
    },
    "cells": {
        "corners": ["menu", "word"], "border": ["menu", "one", "other"], "cell_kind": ["menu", "word"],
        "inner": ["menu", "word"], "parted": ["menu", "one", "other"],
    },
    "papers": {
        "stand": ["menu", "word"], "stand_holds": ["menu", "word", "value"], "reach": ["menu", "word"],
        "reach_holds": ["menu", "word", "value"], "useful": ["menu"], "compare": ["one", "other"],
        "compare_holds": ["one", "other", "value"], "under": ["one", "other"], "under_holds": ["one", "other", "value"],
    },
    "lies": {
        "loss": ["menu", "said", "belief"], "lie": ["menu", "word", "said"], "greatest_loss": ["menu", "said"],
        "steady": ["menu"], "calm": ["menu"], "calm_holds": ["menu", "value"], "plain": ["menu"],
        "like": ["one", "other"],
    },
    "pairs": {
        "book_error": ["value"], "is_book": ["value"], "book_of": ["menu"], "same_book": ["one", "other"],
        "says": ["book", "one", "other", "belief"], "order_at": ["book", "belief"], "find_round": ["book"],
        "round_holds": ["book", "value"], "find_marks": ["book"], "marks_holds": ["book", "value"], "freedom": ["book"],
    },
    "joins": {
        "both": ["one", "other"], "either": ["one", "other"], "times": ["menu", "number"], "shifted": ["menu", "row"],
        "seen": ["menu", "answers"],
    },
}

# Each class with its base, its methods with their parameters (behind a star those by keyword), its operators, and
# its properties.
CLASSES = {
    ("menus", "Menu"): (
        "object", {"is_under": "other", "is_alike": "other"},
        "init getitem iter contains len str bool call add or mul rmul eq", ("rows", "answers"),
    ),
    ("benches", "Bench"): (
        "object",
        {"put": "row", "drop": "word", "mark": "word answer number", "shift": "row", "undo": "",
         "attempt": "batch *on_step=None", "edits": "", "menu_at": "*version=None", "stands_at": "*version=None",
         "compared": "*since=0 *until=None", "each_version": "", "copy": ""},
        "init iadd isub getitem setitem iter contains len str bool eq", (),
    ),
    ("benches", "FrankBench"): ("Bench", {}, "init", ("owns",)),
    ("shells", "Shell"): ("object", {}, "init call", ()),
}

LIBRARY = {"math": ("gcd", "lcm", "isqrt", "comb", "perm", "factorial")}


def package_files():
    return sorted(path for path in FOLDER.rglob("*") if path.is_file() and "__pycache__" not in path.parts)


class Interface(unittest.TestCase):
    def test_each_function_is_defined_in_its_module(self):
        for module, functions in FUNCTIONS.items():
            loaded = importlib.import_module("frankmarks." + module)
            for name, parameters in functions.items():
                with self.subTest(name):
                    function = getattr(loaded, name)
                    self.assertEqual(function.__module__, "frankmarks." + module)
                    self.assertEqual(list(inspect.signature(function).parameters), parameters)

    def test_each_class_is_defined_in_its_module_with_all_that_is_listed_for_it(self):
        for (module, name), (base, methods, operators, properties) in CLASSES.items():
            with self.subTest(name):
                made = getattr(importlib.import_module("frankmarks." + module), name)
                self.assertEqual((made.__module__, made.__bases__[0].__name__), ("frankmarks." + module, base))
                own = vars(made)
                for method, parameters in methods.items():
                    self.assertEqual(told_parameters(own[method]), parameters.split())
                for operator in operators.split():
                    self.assertTrue(callable(own[f"__{operator}__"]))
                for name_of_one in properties:
                    self.assertIsNone(own[name_of_one].fset)
                    self.assertIsNotNone(own[name_of_one].fget)

    def test_nothing_else_can_be_asked_of_the_objects(self):
        for (module, name), (_, methods, _, properties) in CLASSES.items():
            with self.subTest(name):
                own = vars(getattr(importlib.import_module("frankmarks." + module), name))
                public = [each for each in own if not each.startswith("_") and each not in methods]
                self.assertEqual([each for each in public if each != "copy"], list(properties))


def told_parameters(function):
    """The parameters behind the first one, those by keyword with a star, with their default values."""
    found = []
    for parameter in list(inspect.signature(function).parameters.values())[1:]:
        star = "*" if parameter.kind is inspect.Parameter.KEYWORD_ONLY else ""
        default = "" if parameter.default is inspect.Parameter.empty else f"={parameter.default}"
        found.append(star + parameter.name + default)
    return found


class Files(unittest.TestCase):
    def test_only_python_files_with_plain_signs_and_short_lines(self):
        for path in package_files():
            with self.subTest(path.name):
                self.assertEqual(path.suffix, ".py")
                text = path.read_text("ascii")
                self.assertLessEqual(set(text), set("\n" + "".join(map(chr, range(32, 127)))))
                self.assertLessEqual(len(text.splitlines()), 399)
                self.assertLessEqual(max(map(len, text.splitlines()), default=0), 120)

    def test_functions_are_small(self):
        for path in package_files():
            for node in ast.walk(ast.parse(path.read_text("ascii"))):
                if isinstance(node, ast.FunctionDef):
                    with self.subTest(node.name):
                        self.assertLessEqual(node.end_lineno - node.lineno + 1, 40)

    def test_imports_name_the_file_that_defines_the_name(self):
        for path in package_files():
            for node in ast.walk(ast.parse(path.read_text("ascii"))):
                self.assertNotIsInstance(node, ast.Import)
                if isinstance(node, ast.ImportFrom):
                    with self.subTest(path.name, module=node.module):
                        self.check_import(node)

    def test_no_name_has_a_second_meaning(self):
        for path in package_files():
            tree = ast.parse(path.read_text("ascii"))
            taken = defined_names(tree) | set(dir(builtins))
            for node in tree.body:
                if isinstance(node, ast.ImportFrom):
                    taken.update(alias.name for alias in node.names)
            for node in ast.walk(tree):
                if isinstance(node, ast.arg):
                    self.assertNotIn(node.arg, taken, path.name)
                if isinstance(node, ast.Name) and isinstance(node.ctx, ast.Store) and node.col_offset > 0:
                    self.assertNotIn(node.id, taken, path.name)

    def test_operators_have_nothing_near_them_that_could_change_an_object(self):
        for path in package_files():
            for node in ast.walk(ast.parse(path.read_text("ascii"))):
                with self.subTest(path.name):
                    self.assertNotIsInstance(node, (ast.AugAssign, ast.GeneratorExp, ast.Lambda, ast.Global, ast.Match))

    def test_what_operators_run_calls_nothing_that_may_be_held(self):
        # A call of a method with the name of an attribute may be a call of what an object keeps.
        trees = [ast.parse(path.read_text("ascii")) for path in package_files()]
        attributes = attribute_names(trees)
        self.assertLessEqual({"given", "error", "word", "weights", "index", "limit", "rows", "owns"}, attributes)
        ran = run_by_operators(trees)
        self.assertLessEqual({"__bool__", "owns", "put", "first_shut", "solve", "corners_of"}, set(ran))
        for name, functions in ran.items():
            with self.subTest(name):
                called = {each for function in functions for each in called_methods(function)}
                self.assertEqual(called & attributes, set())

    def check_import(self, node):
        names = [alias.name for alias in node.names]
        if node.module in LIBRARY:
            self.assertLessEqual(set(names), set(LIBRARY[node.module]))
            return
        self.assertTrue(node.module.startswith("frankmarks."))
        source = FOLDER / (node.module.split(".", 1)[1] + ".py")
        self.assertLessEqual(set(names), defined_names(ast.parse(source.read_text("ascii"))))


def defined_names(tree):
    names = set()
    for node in tree.body:
        if isinstance(node, (ast.FunctionDef, ast.ClassDef)):
            names.add(node.name)
        elif isinstance(node, ast.Assign):
            names.update(target.id for target in node.targets)
    return names


def attribute_names(trees):
    """The names of what objects of the package keep, and of their properties."""
    nodes = [node for tree in trees for node in ast.walk(tree)]
    stored = {node.attr for node in nodes if isinstance(node, ast.Attribute) and isinstance(node.ctx, ast.Store)}
    return stored | {node.name for node in nodes if is_property(node)}


def is_property(node):
    return isinstance(node, ast.FunctionDef) and any(
        isinstance(each, ast.Name) and each.id == "property" for each in node.decorator_list)


def run_by_operators(trees):
    """What operators and properties run, by name: whatever has a name that is read there counts as run."""
    by_name = {}
    for tree in trees:
        for node in ast.walk(tree):
            if isinstance(node, ast.FunctionDef):
                by_name.setdefault(node.name, []).append(node)
    found = {}
    waiting = [name for name, functions in by_name.items()
               if (name.startswith("__") and name != "__init__") or any(map(is_property, functions))]
    while waiting:
        name = waiting.pop()
        if name in by_name and name not in found:
            found[name] = by_name[name]
            waiting.extend(read for function in by_name[name] for read in names_read(function))
    return found


def names_read(function):
    for node in ast.walk(function):
        if isinstance(node, ast.Name):
            yield node.id
        elif isinstance(node, ast.Attribute):
            yield node.attr


def called_methods(function):
    for node in ast.walk(function):
        if isinstance(node, ast.Call) and isinstance(node.func, ast.Attribute):
            yield node.func.attr


if __name__ == "__main__":
    unittest.main()
