"""The names and arguments of the interface, each defined in the file under which it is listed."""

import ast
import importlib
import inspect
import pathlib
import unittest

PACKAGE = pathlib.Path(__file__).resolve().parent.parent / "packedbases"

FUNCTIONS = {
    "rules": {"is_word": "(value)"},
    "walks": {"is_walk": "(rule, value)", "is_good": "(rule, walk)", "good_walk": "(rule)",
              "ring_marks": "(rule, walk)"},
    "falling": {"paper_of": "(rule)", "is_paper": "(rule, value)", "falling": "(rule, paper, kind, marks)"},
}
METHODS = {
    "rules.Rule": {
        "__init__": "(self, kinds, measures, ways, *, deep=None, tall=None, free=False)", "kinds": "(self)",
        "measures": "(self)", "ways": "(self)", "stays": "(self, measure)", "ways_from": "(self, kind)",
        "limited": "(self, *, deep=None, tall=None, free=False)",
        "lets_by": "(self, kind, marks, base_kind, base_marks)", "__len__": "(self)", "__contains__": "(self, x)",
        "__or__": "(self, other)", "__and__": "(self, other)", "__sub__": "(self, other)", "__eq__": "(self, other)"},
}
PROPERTIES = {"rules.Rule": ["deep", "tall", "free"]}
ERRORS = """BadArgument BadRule BadKind BadMeasure BadThing BadWord BadMarks BadBase BadPacker BadDeed BadNumber BadWalk
BadPaper BadText BadChange BadWish BadCommand Ringed Lost TooMany Leaned BadEntry NothingLeft PackError""".split()


def defined_in(module):
    """The functions and classes that stand in the file of a module."""
    tree = ast.parse((PACKAGE / f"{module}.py").read_text(encoding="utf-8"))
    return {node.name for node in tree.body if isinstance(node, (ast.FunctionDef, ast.ClassDef))}


class InterfaceTest(unittest.TestCase):
    def test_functions(self):
        for module, functions in FUNCTIONS.items():
            for name, arguments in functions.items():
                told = getattr(importlib.import_module(f"packedbases.{module}"), name)
                self.assertEqual(str(inspect.signature(told)), arguments, name)
                self.assertIn(name, defined_in(module))

    def test_classes_and_their_own_methods(self):
        for place, methods in METHODS.items():
            module, name = place.split(".")
            told = getattr(importlib.import_module(f"packedbases.{module}"), name)
            self.assertIn(name, defined_in(module))
            for method, arguments in methods.items():
                self.assertIn(method, vars(told))
                self.assertEqual(str(inspect.signature(vars(told)[method])), arguments, method)
            for method in PROPERTIES[place]:
                self.assertIsInstance(vars(told)[method], property)

    def test_errors(self):
        self.assertEqual(defined_in("errors"), set(ERRORS))


if __name__ == "__main__":
    unittest.main()
