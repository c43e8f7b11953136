import ast
import importlib
import inspect
import pathlib
import unittest

from widthmix import sessions

PACKAGE = pathlib.Path(__file__).resolve().parent.parent / "widthmix"
FUNCTIONS = {
    "tables": {
        "is_table": "(value)",
        "levels_of": "(table, setting)",
        "turned": "(table)",
        "cut_at": "(table, level)",
        "remove_outlet": "(table, outlet)",
        "remove_inlet": "(table, inlet)",
        "join_outlets": "(one, other)",
        "join_inlets": "(one, other)",
        "merged": "(*tables, beside=False)",
    },
    "solutions": {
        "upper_setting": "(table, wants)",
        "is_solution": "(table, wants, value)",
        "find_evidence": "(table, wants)",
        "is_evidence": "(table, wants, value)",
        "greatest_solution": "(table, wants)",
        "certificate": "(table, wants)",
        "is_certificate": "(table, wants, value)",
    },
    "minimal": {
        "minimal_solutions": "(table, wants)",
        "is_minimal": "(table, wants, value)",
        "inlet_range": "(table, wants, inlet)",
        "count_solutions": "(table, wants)",
        "solution_at": "(table, wants, index)",
        "solution_index": "(table, wants, value)",
        "walk_solutions": "(table, wants, *, first=0, most=20)",
    },
    "costs": {
        "cost_of": "(table, setting, prices)",
        "cheapest_solution": "(table, wants, prices)",
    },
    "tolerances": {
        "setting_within": "(table, wants, tolerance)",
        "is_evidence_against": "(table, wants, tolerance, value)",
        "least_tolerance": "(table, wants)",
        "tolerance_certificate": "(table, wants)",
        "is_tolerance_certificate": "(table, wants, value)",
    },
    "products": {
        "product": "(one, other)",
        "power": "(table, exponent)",
        "index_and_period": "(table)",
        "closure": "(table)",
        "groups_at": "(table, level)",
        "residual": "(table, target)",
        "solve_product": "(table, target)",
    },
    "agreement": {
        "agree_at": "(one, other, setting)",
        "common_setting": "(one, other, bounds)",
        "find_lowerings": "(one, other, bounds)",
        "lowerings_hold": "(one, other, bounds, value)",
        "fixed_setting": "(table, bounds)",
    },
    "texts": {
        "format_data": "(table, wants)",
        "parse_data": "(value)",
        "format_setting": "(setting)",
        "parse_setting": "(value)",
    },
}
SESSION_METHODS = {
    "__init__": "(self, table, wants, *, limit=60)",
    "set_width": "(self, outlet, inlet, width)",
    "set_want": "(self, outlet, want)",
    "add_outlet": "(self, want, widths)",
    "remove_outlet": "(self, outlet)",
    "add_inlet": "(self, widths)",
    "remove_inlet": "(self, inlet)",
    "undo": "(self)",
    "apply_all": "(self, operations)",
    "log": "(self)",
    "table": "(self, *, at=None)",
    "wants": "(self, *, at=None)",
    "certificate": "(self, *, at=None)",
    "tolerance": "(self, *, at=None)",
    "greatest": "(self, *, at=None)",
    "minimal": "(self, *, at=None)",
    "clone": "(self)",
    "preview": "(self, operations)",
    "from_text": "(value)",
    "operation_names": "()",
    "annotate": "(self, value)",
    "__len__": "(self)",
    "__str__": "(self)",
    "__eq__": "(self, other)",
}
CLASSES = {
    "sessions": {
        "Session": SESSION_METHODS,
        "GuardedSession": {"__init__": "(self, table, wants, *, limit=60)"},
    },
    "consoles": {
        "Console": {"__init__": "(self, session)", "execute": "(self, line)", "history": "(self)"},
    },
}


def defined_names(module):
    tree = ast.parse((PACKAGE / f"{module}.py").read_text())
    return [node.name for node in tree.body if isinstance(node, (ast.FunctionDef, ast.ClassDef))]


class InterfaceTest(unittest.TestCase):
    """Point 82."""

    def test_functions(self):
        for module, functions in FUNCTIONS.items():
            loaded = importlib.import_module(f"widthmix.{module}")
            for name, parameters in functions.items():
                self.assertIn(name, defined_names(module))
                self.assertEqual(str(inspect.signature(getattr(loaded, name))), parameters, name)

    def test_classes(self):
        for module, classes in CLASSES.items():
            loaded = importlib.import_module(f"widthmix.{module}")
            for name, methods in classes.items():
                self.assertIn(name, defined_names(module))
                self.check_methods(getattr(loaded, name), methods)

    def check_methods(self, given, methods):
        for name, parameters in methods.items():
            # The method stands in the body of the class itself.
            self.assertIn(name, vars(given))
            self.assertEqual(str(inspect.signature(getattr(given, name))), parameters, name)

    def test_other_parts_of_session(self):
        parts = vars(sessions.Session)
        self.assertIs(type(parts["LIMIT"]), int)
        self.assertIsInstance(parts["from_text"], classmethod)
        self.assertIsInstance(parts["operation_names"], staticmethod)
        self.assertIsInstance(parts["gap"], property)
        self.assertIsInstance(parts["note"], property)
        self.assertIsNone(parts["gap"].fset)
        self.assertEqual(sessions.GuardedSession.__bases__, (sessions.Session,))


if __name__ == "__main__":
    unittest.main()
