import ast
import importlib
import inspect
import pathlib
import unittest

PACKAGE = pathlib.Path(__file__).resolve().parent.parent / "widthmix"
FUNCTIONS = {
    "tables": {
        "is_table": "(value)",
        "levels_of": "(table, setting)",
        "turned": "(table)",
        "cut_at": "(table, level)",
        "remove_outlet": "(table, outlet)",
        "remove_inlet": "(table, inlet)",
        "join_outlets": "(one, other)",
        "join_inlets": "(one, other)",
        "merged": "(*tables, beside=False)",
    },
    "solutions": {
        "upper_setting": "(table, wants)",
        "is_solution": "(table, wants, value)",
        "find_evidence": "(table, wants)",
        "is_evidence": "(table, wants, value)",
        "greatest_solution": "(table, wants)",
        "certificate": "(table, wants)",
        "is_certificate": "(table, wants, value)",
    },
    "minimal": {
        "minimal_solutions": "(table, wants)",
        "is_minimal": "(table, wants, value)",
        "inlet_range": "(table, wants, inlet)",
        "count_solutions": "(table, wants)",
        "solution_at": "(table, wants, index)",
        "solution_index": "(table, wants, value)",
        "walk_solutions": "(table, wants, *, first=0, most=20)",
    },
    "costs": {
        "cost_of": "(table, setting, prices)",
        "cheapest_solution": "(table, wants, prices)",
    },
    "tolerances": {
        "setting_within": "(table, wants, tolerance)",
        "is_evidence_against": "(table, wants, tolerance, value)",
        "least_tolerance": "(table, wants)",
        "tolerance_certificate": "(table, wants)",
        "is_tolerance_certificate": "(table, wants, value)",
    },
    "products": {
        "product": "(one, other)",
        "power": "(table, exponent)",
        "index_and_period": "(table)",
        "closure": "(table)",
        "groups_at": "(table, level)",
        "residual": "(table, target)",
        "solve_product": "(table, target)",
    },
}


def defined_names(module):
    tree = ast.parse((PACKAGE / f"{module}.py").read_text())
    return [node.name for node in tree.body if isinstance(node, (ast.FunctionDef, ast.ClassDef))]


class InterfaceTest(unittest.TestCase):
    """Point 82."""

    def test_functions(self):
        for module, functions in FUNCTIONS.items():
            loaded = importlib.import_module(f"widthmix.{module}")
            for name, parameters in functions.items():
                self.assertIn(name, defined_names(module))
                self.assertEqual(str(inspect.signature(getattr(loaded, name))), parameters, name)


if __name__ == "__main__":
    unittest.main()
