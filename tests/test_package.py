"""The interface, and the form of the package folder."""

import ast
import builtins
import importlib
import inspect
import pathlib
import unittest

FOLDER = pathlib.Path(__file__).resolve().parent.parent / "gridupgrade"
INTERFACE = {
    "catalogs": {
        "is_name": "(value)",
        "is_release": "(value)",
        "is_catalog": "(value)",
        "compatible": "(catalog, one, other)",
        "distance": "(catalog, start, end)",
        "reachable": "(catalog, start)",
        "levels": "(catalog, start)",
        "path": "(catalog, start, end)",
    },
    "networks": {
        "is_network": "(value)",
        "neighbours": "(network, service)",
        "lone": "(network)",
        "parts": "(network)",
        "odd_cycle": "(network)",
        "shows_odd_cycle": "(network, value)",
        "sides": "(network)",
        "together": "(*networks)",
    },
    "states": {
        "is_state": "(network, catalog, value)",
        "is_valid": "(network, catalog, value)",
        "conflicts": "(network, catalog, state)",
        "blockers": "(network, catalog, state, service, release)",
        "run": "(network, catalog, state, schedule)",
        "walk": "(network, catalog, state, schedule)",
    },
    "grids": {
        "nodes": "(network, distance)",
        "are_adjacent": "(network, one, other)",
        "is_apart": "(network, distance, value)",
        "is_matching": "(network, distance, value)",
        "skips": "(network, catalog, start, end, schedule)",
    },
    "matchings": {
        "greatest_matching": "(network, distance)",
        "greatest_apart": "(network, distance)",
        "cover": "(network, distance)",
    },
    "upgrades": {
        "fewest": "(network, catalog, start, end)",
        "upgrade": "(network, catalog, start, end)",
        "evidence": "(network, catalog, start, end)",
        "shows_fewest": "(network, catalog, start, end, value)",
        "schedule_with": "(network, catalog, path, apart)",
    },
    "prices": {
        "are_prices": "(value)",
        "priced": "(**prices)",
        "price_of": "(schedule, prices)",
        "least_price": "(network, catalog, start, end, prices)",
        "cheapest": "(network, catalog, start, end, prices)",
        "flow": "(network, catalog, start, end, prices)",
        "shows_cheapest": "(network, catalog, start, end, prices, value)",
    },
    "choices": {
        "may_skip": "(network, distance)",
        "must_skip": "(network, distance)",
        "fewest_without": "(network, distance, barred)",
    },
    "waves": {
        "is_wave": "(network, catalog, state, value)",
        "after_wave": "(network, catalog, state, wave)",
        "waves": "(network, catalog, start, end)",
        "shows_waves": "(network, catalog, start, end, value)",
    },
    "small": {
        "greatest_any": "(network, distance)",
        "fewest_any": "(network, catalog, start, end)",
        "search": "(network, catalog, state, goal)",
    },
    "fleets": {
        "rehearsed": "(fleet, steps)",
    },
    "texts": {
        "format_network": "(network)",
        "format_catalog": "(catalog)",
        "format_schedule": "(schedule)",
        "parse_network": "(text)",
        "parse_catalog": "(text)",
        "parse_schedule": "(text)",
    },
}
FLEET_METHODS = {
    "replace": "(self, service, release)",
    "upgrade": "(self, end)",
    "tried": "(self, schedule)",
    "log": "(self)",
    "undo": "(self)",
    "copy": "(self)",
    "__len__": "(self)",
    "__eq__": "(self, other)",
}
# For each class its file, its methods, and its properties.
CLASSES = {
    "Fleet": (
        "fleets", {"__init__": "(self, network, catalog, start)", **FLEET_METHODS},
        ("network", "catalog", "state", "made"),
    ),
    "PricedFleet": (
        "fleets",
        {
            "__init__": "(self, network, catalog, start, *, prices=(), budget=None)",
            "replace": "(self, service, release)",
            "upgrade": "(self, end)",
            "copy": "(self)",
        },
        ("prices", "budget", "spent"),
    ),
    "Trial": (
        "fleets",
        {"__init__": "(self, fleet)", "__enter__": "(self)", "__exit__": "(self, kind, value, trace)"},
        (),
    ),
    "Desk": ("desk", {"__init__": "(self, network_text, catalog_text)", "say": "(self, line)"}, ()),
}


def trees():
    """Return the syntax tree of each file of the package."""
    return [(path, ast.parse(path.read_text("utf-8"))) for path in sorted(FOLDER.glob("*.py"))]


class Interface(unittest.TestCase):
    def test_functions_and_their_arguments(self):
        for module, functions in INTERFACE.items():
            found = importlib.import_module(f"gridupgrade.{module}")
            for name, signature in functions.items():
                self.assertEqual(str(inspect.signature(getattr(found, name))), signature)

    def test_functions_are_defined_in_their_file(self):
        for module, functions in INTERFACE.items():
            tree = ast.parse((FOLDER / f"{module}.py").read_text("utf-8"))
            defined = [node.name for node in tree.body if isinstance(node, ast.FunctionDef)]
            for name in functions:
                self.assertEqual(defined.count(name), 1, name)

    def test_classes_and_their_methods(self):
        for name, (module, methods, properties) in CLASSES.items():
            found = getattr(importlib.import_module(f"gridupgrade.{module}"), name)
            for method, signature in methods.items():
                self.assertEqual(str(inspect.signature(vars(found)[method])), signature)
            for other in properties:
                self.assertIsInstance(vars(found)[other], property)

    def test_classes_are_defined_in_their_file(self):
        for name, (module, methods, properties) in CLASSES.items():
            tree = ast.parse((FOLDER / f"{module}.py").read_text("utf-8"))
            [found] = [node for node in tree.body if isinstance(node, ast.ClassDef) and node.name == name]
            defined = [node.name for node in found.body if isinstance(node, ast.FunctionDef)]
            for other in (*methods, *properties):
                self.assertEqual(defined.count(other), 1, other)


class Form(unittest.TestCase):
    def test_the_folder_contains_python_files_only(self):
        inside = [path.name for path in FOLDER.iterdir() if path.name != "__pycache__"]
        self.assertIn("__init__.py", inside)
        self.assertEqual([name for name in inside if not name.endswith(".py")], [])

    def test_lengths_and_characters(self):
        for path, tree in trees():
            text = path.read_text("utf-8")
            lines = text.splitlines()
            self.assertLess(len(lines), 400, path)
            self.assertTrue(all(len(line) <= 120 for line in lines), path)
            self.assertTrue(all(" " <= letter <= "~" or letter == "\n" for letter in text), path)
            for node in ast.walk(tree):
                if isinstance(node, ast.FunctionDef):
                    self.assertLessEqual(node.end_lineno - node.lineno + 1, 40, node.name)

    def test_no_name_of_an_import_is_given_another_meaning(self):
        for path, tree in trees():
            imported = {alias.name for node in tree.body if isinstance(node, ast.ImportFrom) for alias in node.names}
            names = [node for node in ast.walk(tree) if isinstance(node, ast.Name)]
            taken = [node.id for node in names if isinstance(node.ctx, ast.Store)]
            taken += [node.arg for node in ast.walk(tree) if isinstance(node, ast.arg)]
            taken += [node.name for node in tree.body if isinstance(node, (ast.FunctionDef, ast.ClassDef))]
            self.assertEqual(imported & set(taken), set(), path)

    def test_builtins_and_methods(self):
        functions = {"abs", "all", "any", "bool", "dict", "enumerate", "int", "isinstance", "len", "list", "max", "min",
                     "property", "range", "reversed", "set", "sorted", "str", "sum", "super", "tuple", "zip", "ValueError"}
        methods = {"append", "extend", "get", "items", "join", "partition", "split", "update", "values", "__init__"}
        for _, tree in trees():
            classes = [node for node in tree.body if isinstance(node, ast.ClassDef)]
            methods |= {node.name for found in classes for node in found.body if isinstance(node, ast.FunctionDef)}
        for path, tree in trees():
            for node in ast.walk(tree):
                if isinstance(node, ast.Name) and hasattr(builtins, node.id):
                    self.assertIn(node.id, functions, path)
                    self.assertIsInstance(node.ctx, ast.Load, path)
                if isinstance(node, ast.Call) and isinstance(node.func, ast.Attribute):
                    self.assertIn(node.func.attr, methods, path)

    def test_forms_that_are_not_used(self):
        barred = (ast.GeneratorExp, ast.Lambda, ast.Global, ast.Nonlocal, ast.Div, ast.JoinedStr, ast.AsyncFunctionDef)
        for path, tree in trees():
            for node in ast.walk(tree):
                self.assertNotIsInstance(node, barred, path)
                if isinstance(node, ast.Constant):
                    self.assertIsInstance(node.value, (int, str, type(None)), path)
                    self.assertNotIn(chr(37), str(node.value), path)

    def test_only_files_of_the_package_are_imported(self):
        for path, tree in trees():
            for node in ast.walk(tree):
                self.assertNotIsInstance(node, ast.Import, path)
                if isinstance(node, ast.ImportFrom):
                    self.assertTrue(node.module.startswith("gridupgrade."), path)


if __name__ == "__main__":
    unittest.main()
