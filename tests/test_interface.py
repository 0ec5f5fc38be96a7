"""The names and arguments of the interface, each defined in the file under which it is listed."""

import ast
import importlib
import inspect
import pathlib
import unittest

PACKAGE = pathlib.Path(__file__).resolve().parent.parent / "packedbases"

FUNCTIONS = {
    "rules": {"is_word": "(value)"},
    "walks": {"is_walk": "(rule, value)", "is_good": "(rule, walk)", "good_walk": "(rule)",
              "ring_marks": "(rule, walk)"},
    "falling": {"paper_of": "(rule)", "is_paper": "(rule, value)", "falling": "(rule, paper, kind, marks)"},
    "store": {"played": "(rule, script)"},
    "rings": {"most_things": "(rule, packers)", "least_ring": "(rule, packers)", "closes": "(rule, packers)",
              "ring_script": "(rule, packers)"},
    "chains": {"longest": "(rule, packers)", "chain_walk": "(rule, length)",
               "chain_deeds": "(rule, packers, length)", "count_walks": "(rule, kind, length)",
               "count_closed": "(rule, length)", "count_good": "(rule, length)",
               "shown_bound": "(rule, packers, paper)", "shows_endless": "(rule, packers, paper)",
               "chain_paper": "(rule, packers)"},
    "joins": {"rings_in": "(forms)", "depths_in": "(forms)", "joined": "(forms, other, taken)",
              "joined_ring": "(rule, other)", "joins_safely": "(rule, other)", "keeps_apart": "(forms, other)"},
    "live": {"made": "(base, change)", "cost_of": "(change)", "change_of": "(base, target)",
             "least_cost": "(base, target)", "tried": "(live, words, bases)"},
    "cells": {"cells_of": "(rule)", "cell_of": "(rule, kind, marks, base_kind, base_marks)"},
    "compared": {"lets_choice": "(rule, choice)", "within": "(one, other)", "alike": "(one, other)",
                 "parting": "(one, other)"},
    "keepings": {"all_keepings": "()", "deeds_at": "(keeping, standing)"},
    "losses": {"loses": "(keeping)", "loss_script": "(keeping)", "loss_scripts": "(keeping)",
               "standings_of": "(keeping)", "lacking": "(keeping, table)", "safe_keepings": "()",
               "is_shown": "(keeping, value)"},
    "mends": {"greatest_limits": "(rule, packers)", "widest": "(rule, packers)"},
    "sessions": {"attempted": "(session, changes, *, fast=False)"},
    "notes": {"write_rule": "(rule)", "read_rule": "(text)", "write_script": "(script)", "read_script": "(text)",
              "write_paper": "(rule, paper)", "read_paper": "(rule, text)"},
    "orders": {"replayed": "(given, packers, deeds)"},
    "packs": {"packs_of": "(forms)"},
}
METHODS = {
    "rules.Rule": {
        "__init__": "(self, kinds, measures, ways, *, deep=None, tall=None, free=False)", "kinds": "(self)",
        "measures": "(self)", "ways": "(self)", "stays": "(self, measure)", "ways_from": "(self, kind)",
        "limited": "(self, *, deep=None, tall=None, free=False)",
        "lets_by": "(self, kind, marks, base_kind, base_marks)", "__len__": "(self)", "__contains__": "(self, x)",
        "__or__": "(self, other)", "__and__": "(self, other)", "__sub__": "(self, other)", "__eq__": "(self, other)"},
    "store.Store": {
        "__init__": "(self, rule)", "words": "(self)", "__contains__": "(self, x)", "__len__": "(self)",
        "kind_of": "(self, word)", "marks_of": "(self, word)", "base_of": "(self, word)", "chain": "(self, word)",
        "depth": "(self, word)", "height": "(self, word)", "forms": "(self)", "pending": "(self)", "ring": "(self)",
        "put": "(self, word, kind, marks)", "mark": "(self, word, measure, number)", "whole": "(self, word)",
        "lets_by": "(self, word, base)", "ask": "(self, packer, word, base)", "write": "(self, packer)",
        "stop": "(self, packer)", "script": "(self)", "do": "(self, deed)"},
    "given.Given": {
        "__init__": "(self, rule, things)", "__getitem__": "(self, at)", "__contains__": "(self, x)",
        "__len__": "(self)", "words": "(self)", "__eq__": "(self, other)", "bases": "(self, word)",
        "longest": "(self, packers)", "chain": "(self, packers)", "ring": "(self, packers)",
        "deeds": "(self, words, packers)", "ring_deeds": "(self, words, packers)"},
    "live.Live": {
        "__init__": "(self, rule)", "put": "(self, word, kind, marks, contents)",
        "mark": "(self, word, measure, number)", "pack": "(self, word, base)", "whole": "(self, word)",
        "__getitem__": "(self, at)", "__setitem__": "(self, at, worth)", "rewrite": "(self, word, contents)",
        "drop": "(self, word)", "size": "(self, word)", "total": "(self)", "forms": "(self)", "depth": "(self, word)",
        "__contains__": "(self, x)", "__len__": "(self)", "words": "(self)", "copy": "(self)", "trial": "(self)",
        "__eq__": "(self, other)"},
    "cells.Cells": {
        "__init__": "(self, rule, cells)", "cells": "(self)", "__contains__": "(self, x)", "__len__": "(self)",
        "__or__": "(self, other)", "__and__": "(self, other)", "__sub__": "(self, other)", "__invert__": "(self)",
        "__le__": "(self, other)", "__eq__": "(self, other)", "__call__": "(self, kind)", "ways": "(self, most=12)"},
    "keepings.Keeping": {"__init__": "(self, drop, order, stops)", "__eq__": "(self, other)"},
    "mends.Mend": {"__init__": "(self, rule, menu, wishes)", "behind": "(self, picks)", "unmet": "(self, picks)",
                   "good": "(self)", "least": "(self)", "__len__": "(self)"},
    "sessions.Session": {
        "__init__": "(self, rule)", "result": "(self)", "add": "(self, way)", "strike": "(self, way)",
        "limit": "(self, *, deep=None, tall=None, free=False)", "undo": "(self)", "__len__": "(self)"},
    "sessions.Attempt": {"__init__": "(self, session)", "hold_fast": "(self)", "__enter__": "(self)",
                         "__exit__": "(self, kind, value, trace)"},
    "consoles.Console": {"__init__": "(self, rule)", "execute": "(self, line)"},
    "orders.Orders": {"__init__": "(self, given, packers)", "ring_deeds": "(self)", "chain_deeds": "(self, length)",
                      "counts": "(self)", "lost_forms": "(self)"},
    "packs.Packs": {
        "__init__": "(self, packs=())", "rows": "(self)", "words": "(self)", "__len__": "(self)",
        "__getitem__": "(self, at)", "__contains__": "(self, x)", "__add__": "(self, other)",
        "__le__": "(self, other)", "__eq__": "(self, other)", "trail": "(self, word, reader)",
        "makes": "(self, word, reader)", "lost": "(self, reader)", "needless": "(self, reader)",
        "folded": "(self, reader)", "least_packs": "(self, reader)", "trimmed": "(self, number, words)"},
}
PROPERTIES = {"rules.Rule": ["deep", "tall", "free"], "store.Store": ["rule"], "orders.Orders": ["amount"]}
STATIC = {"packs.Packs": {"wholes": "(words)"}}
GENERATORS = ["keepings.all_keepings", "losses.loss_scripts", "mends.Mend.good", "orders.Orders.lost_forms",
              "packs.Packs.trail"]
ERRORS = """BadArgument BadRule BadKind BadMeasure BadThing BadWord BadMarks BadBase BadPacker BadDeed BadNumber BadWalk
BadPaper BadText BadChange BadWish BadCommand Ringed Lost TooMany Leaned BadEntry NothingLeft PackError""".split()


def defined_in(module):
    """The functions and classes that stand in the file of a module."""
    tree = ast.parse((PACKAGE / f"{module}.py").read_text(encoding="utf-8"))
    return {node.name for node in tree.body if isinstance(node, (ast.FunctionDef, ast.ClassDef))}


class InterfaceTest(unittest.TestCase):
    def test_functions(self):
        for module, functions in FUNCTIONS.items():
            for name, arguments in functions.items():
                told = getattr(importlib.import_module(f"packedbases.{module}"), name)
                self.assertEqual(str(inspect.signature(told)), arguments, name)
                self.assertIn(name, defined_in(module))

    def test_classes_and_their_own_methods(self):
        for place, methods in METHODS.items():
            module, name = place.split(".")
            told = getattr(importlib.import_module(f"packedbases.{module}"), name)
            self.assertIn(name, defined_in(module))
            for method, arguments in methods.items():
                self.assertIn(method, vars(told))
                self.assertEqual(str(inspect.signature(vars(told)[method])), arguments, method)
            for method in PROPERTIES.get(place, []):
                self.assertIsInstance(vars(told)[method], property)
            for method, arguments in STATIC.get(place, {}).items():
                self.assertIsInstance(vars(told)[method], staticmethod)
                self.assertEqual(str(inspect.signature(getattr(told, method))), arguments, method)

    def test_generators(self):
        for place in GENERATORS:
            module, *names = place.split(".")
            told = importlib.import_module(f"packedbases.{module}")
            for name in names:
                told = getattr(told, name)
            self.assertTrue(inspect.isgeneratorfunction(told), place)

    def test_errors(self):
        self.assertEqual(defined_in("errors"), set(ERRORS))


if __name__ == "__main__":
    unittest.main()
