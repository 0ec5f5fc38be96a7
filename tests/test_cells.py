"""[2], [17] and the interface of packedbases/cells.py."""

import itertools
import operator
import random
import unittest

from packedbases.cells import Cells, cell_of, cells_of
from packedbases.errors import BadArgument, BadKind, BadMarks, BadNumber
from packedbases.rules import Rule
from samples import ANY, SIGNS, Angry, Nasty, odd_values, one_measure, random_rule, sign_is_met

STANDS = ["less", "same", "more"]
LETS = {"less": ["less"], "upto": ["less", "same"], "same": ["same"], "from": ["same", "more"], "more": ["more"],
        "any": STANDS}
NUMBERS = {"less": -1, "same": 0, "more": 1}
FREELY = Rule(["k"], {"m": True}, [ANY])
TWO = Rule(["a", "b"], {"m": True, "n": False}, [("a", "b", ("any", "any"))])
KINDS = ["a", "b", "c", "d", "e"]
WIDE = Rule(KINDS, {"x": True, "y": True, "z": False}, [("a", "b", ("any", "any", "any"))])
NO_CELLS = [("a", "b", ("less",)), ("a", "b", ("less", "same", "more")), ("a", "b", ("upto", "same")),
            ("a", "b", ("any", "any")), ("a", "b", ["less", "same"]), ["a", "b", ("less", "same")],
            ("a", "c", ("less", "same")), ("A", "b", ("less", "same")), ("a", "b"), ("a", "b", ("less", "same"), 1),
            (["a"], "b", ("less", "same")), ("a", {}, ("less", "same")), ("a", "b", ("less", [])), ("a", "b", "less"),
            ("a", "b", (None, "same")), ("a", "b", (True, False)), None, "ab", (Nasty(), "b", ("less", "same")),
            ("a", "b", (Nasty(), Nasty())), Nasty(), Angry(), ("a", "b", Angry()), ("a", "b", ("less", Angry()))]


def all_cells(rule):
    kinds = rule.kinds()
    return list(itertools.product(kinds, kinds, itertools.product(STANDS, repeat=len(rule.measures()))))


def cells_of_ways(ways):
    return {(kind, base, stands) for kind, base, signs in ways
            for stands in itertools.product(*[LETS[sign] for sign in signs])}


def in_order(cells):
    return sorted(cells, key=str)


def some_cells(draw, rule):
    return draw.sample(all_cells(rule), draw.randint(0, len(all_cells(rule))))


class Case(unittest.TestCase):
    def refused(self, kind, value, act, *parts):
        with self.assertRaises(kind) as caught:
            act(*parts)
        self.assertIs(type(caught.exception), kind)
        self.assertIs(caught.exception.value, value)


class CellsTest(Case):
    def test_lists_and_tuples_in_any_order_with_doubles(self):
        draw = random.Random(1)
        for rule in (FREELY, TWO, WIDE):
            for _ in range(30):
                given = some_cells(draw, rule)
                given += draw.sample(given, len(given) // 2)
                draw.shuffle(given)
                cells = Cells(rule, given)
                self.assertEqual(cells.cells(), in_order(set(given)))
                self.assertEqual(len(cells), len(set(given)))
                self.assertEqual(Cells(cells=tuple(given), rule=rule), cells)
                for cell in all_cells(rule):
                    self.assertIs(cell in cells, cell in given)
        self.assertEqual((Cells(FREELY, []).cells(), len(Cells(FREELY, ()))), ([], 0))

    def test_wrong_values(self):
        good = ("a", "b", ("less", "same"))
        for cell in NO_CELLS:
            self.assertIs(cell in Cells(TWO, all_cells(TWO)), False)
            for cells in ([cell], (cell,), [good, cell], (cell, good)):
                self.refused(BadArgument, cells, Cells, TWO, cells)
        for value in odd_values():
            self.assertIs(value in Cells(TWO, all_cells(TWO)), False)
            self.refused(BadArgument, value, Cells, value, value)
            self.refused(BadArgument, value, Cells, value, [good])
            self.refused(BadArgument, value, cells_of, value)
            if not isinstance(value, (list, tuple)) or len(value):
                self.refused(BadArgument, value, Cells, TWO, value)
        for cells in ({good: 1}, {good}, iter([good]), "cells", Cells(TWO, [good])):
            self.refused(BadArgument, cells, Cells, TWO, cells)

    def test_cells_of_each_sign(self):
        for sign in SIGNS:
            self.assertEqual(cells_of(one_measure([sign])).cells(), in_order([("k", "k", (stand,)) for stand in LETS[sign]]))
        for signs in itertools.product(SIGNS, repeat=3):
            rule = Rule(["a", "b"], {"x": True, "y": False, "z": True}, [("b", "a", signs)])
            self.assertEqual(cells_of(rule=rule).cells(), in_order(cells_of_ways(rule.ways())))

    def test_cells_of_many_rules(self):
        for seed in range(300):
            rule = random_rule(seed)
            cells = cells_of(rule)
            self.assertEqual(cells.cells(), in_order(cells_of_ways(rule.ways())))
            numbers = list(itertools.product([-1, 0, 1], repeat=len(rule.measures())))[::3]
            for kind, base in itertools.product(rule.kinds(), rule.kinds()):
                for steps in numbers:
                    marks = {measure: 5 for measure in rule.measures()}
                    base_marks = {measure: 5 + step for measure, step in zip(rule.measures(), steps)}
                    cell = cell_of(rule, kind, marks, base, base_marks)
                    self.assertIs(cell in cells, rule.lets_by(kind, marks, base, base_marks))

    def test_five_kinds_and_three_measures(self):
        self.assertEqual(len(~Cells(WIDE, [])), 25 * 27)
        self.assertEqual((~Cells(WIDE, [])).cells(), in_order(all_cells(WIDE)))
        twelve = Rule(KINDS, {"x": True, "y": True, "z": True},
                      [(kind, base, ("any",) * 3) for kind, base in itertools.product(KINDS, KINDS)][:12])
        self.assertEqual(len(cells_of(twelve)), 12 * 27)
        self.assertEqual(cells_of(twelve).ways(), twelve.ways())

    def test_called(self):
        for seed in range(50):
            rule = random_rule(seed)
            cells = cells_of(rule)
            for kind in rule.kinds():
                self.assertIsInstance(cells(kind), Cells)
                self.assertEqual(cells(kind=kind).cells(), [cell for cell in cells.cells() if cell[0] == kind])
            for value in odd_values() + ["q", "K", ["k"], rule.measures()[0]]:
                self.refused(BadKind, value, cells, value)

    def test_equal_cells(self):
        cells = cells_of(TWO)
        self.assertIs(cells == cells_of(TWO.limited(deep=0, tall=1, free=True)), True)
        self.assertIs(cells == Cells(TWO, cells.cells()[::-1]), True)
        split = Rule(["b", "a"], {"n": False, "m": True}, [("a", "b", (sign, "any")) for sign in ("upto", "from")])
        self.assertEqual(cells, cells_of(split))
        moved = Rule(["a", "b"], {"m": True, "n": True}, TWO.ways())
        for other in (Cells(TWO, cells.cells()[1:]), Cells(moved, cells.cells()), cells.cells(), None, TWO, "cells", 9,
                      cells_of(Rule(["a", "b", "c"], {"m": True, "n": False}, TWO.ways()))):
            self.assertIs(cells == other, False)
            self.assertIs(cells != other, True)

    def test_they_never_change(self):
        given = all_cells(TWO)[:5]
        cells = Cells(TWO, given)
        wanted = in_order(given)
        given.clear()
        cells.cells().clear()
        cells_of(TWO).ways().clear()
        (cells | ~cells, cells & cells, cells - cells, ~cells, cells("a"), cells <= cells)
        self.assertEqual(cells.cells(), wanted)
        self.assertEqual(cells_of(TWO).ways(), TWO.ways())


class SetsTest(Case):
    def test_held_against_sets(self):
        signs = {operator.or_: set.__or__, operator.and_: set.__and__, operator.sub: set.__sub__}
        for seed in range(60):
            draw = random.Random(seed)
            rule = (FREELY, TWO, WIDE)[seed % 3]
            other_rule = rule.limited(deep=draw.choice([None, 3]))
            one, two = some_cells(draw, rule), some_cells(draw, rule)
            if seed % 4 == 0:
                two = one + two
            for sign, wanted in signs.items():
                told = sign(Cells(rule, one), Cells(other_rule, two))
                self.assertIsInstance(told, Cells)
                self.assertEqual(told.cells(), in_order(wanted(set(one), set(two))))
                self.assertEqual(told, Cells(rule, told.cells()))
            self.assertIs(Cells(rule, one) <= Cells(other_rule, two), set(one) <= set(two))
            self.assertIs(Cells(rule, two) <= Cells(other_rule, one), set(two) <= set(one))
            self.assertEqual((~Cells(rule, one)).cells(), in_order(set(all_cells(rule)) - set(one)))
            self.assertEqual(~~Cells(rule, one), Cells(rule, one))
        self.assertIs(Cells(FREELY, []) <= Cells(FREELY, []), True)

    def test_wrong_others(self):
        cells = cells_of(TWO)
        unlike = [Rule(["a", "b"], {"m": True, "n": True}, TWO.ways()),
                  Rule(["a", "b", "c"], {"m": True, "n": False}, TWO.ways()),
                  Rule(["a", "b"], {"m": True, "o": False}, TWO.ways()), FREELY]
        for other in odd_values() + [cells_of(rule) for rule in unlike] + [TWO, cells.cells(), set(cells.cells())]:
            for act in (operator.or_, operator.and_, operator.sub, operator.le):
                self.refused(BadArgument, other, act, cells, other)


def fewest_by_search(cells, most):
    """The fewest ways that let by just these cells, by trying all sets of ways of up to so many."""
    rule_ways = [(kind, base) for kind, base, _ in cells]
    signs = list(itertools.product(SIGNS, repeat=len(cells[0][2])))
    ways = [pair + (held,) for pair in dict.fromkeys(rule_ways) for held in signs]
    ways = [way for way in ways if cells_of_ways([way]) <= set(cells)]
    for many in range(1, most + 1):
        for chosen in itertools.combinations(ways, many):
            if cells_of_ways(chosen) == set(cells):
                return many
    return None


class WaysTest(Case):
    def check(self, rule, given, fewest):
        cells = Cells(rule, given)
        for most in range(1, 13):
            told = cells.ways(most)
            if fewest is None or fewest > most:
                self.assertIsNone(told)
                continue
            self.assertIs(type(told), list)
            self.assertEqual((len(told), told), (fewest, in_order(told)))
            self.assertEqual(cells_of(Rule(rule.kinds(), {measure: rule.stays(measure) for measure in rule.measures()},
                                           told)), cells)
            self.assertEqual(cells.ways(most=most), told)
        self.assertEqual(cells.ways(), cells.ways(12))

    def test_no_cell(self):
        for rule in (FREELY, TWO, WIDE):
            for most in range(1, 13):
                self.assertIsNone(Cells(rule, []).ways(most))

    def test_all_sets_of_one_measure(self):
        given = all_cells(FREELY)
        for many in (1, 2, 3):
            for chosen in itertools.combinations(given, many):
                stands = {cell[2][0] for cell in chosen}
                self.check(FREELY, chosen, 2 if stands == {"less", "more"} else 1)

    def test_all_sets_of_two_measures(self):
        rule = Rule(["k"], {"m": True, "n": True}, [("k", "k", ("any", "any"))])
        given = all_cells(rule)
        for chosen in itertools.product([False, True], repeat=9):
            cells = [cell for cell, held in zip(given, chosen) if held]
            if cells:
                # Five stands of which no two are beside one another are the most.
                self.check(rule, cells, fewest_by_search(cells, 5))

    def test_three_measures(self):
        rule = Rule(["k"], {"m": True, "n": True, "o": False}, [("k", "k", ("any",) * 3)])
        told = {}
        for seed in range(150):
            draw = random.Random(seed)
            ways = [("k", "k", tuple(draw.choice(SIGNS) for _ in range(3))) for _ in range(draw.randint(1, 7))]
            cells = in_order(cells_of_ways(ways))
            if seed % 3 == 0:
                cells = draw.sample(cells, min(len(cells), 5))
            boxes = [frozenset(cells_of_ways([("k", "k", signs)])) for signs in itertools.product(SIGNS, repeat=3)]
            boxes = [box for box in boxes if box <= set(cells)]
            boxes = [box for box in boxes if not any(box < other for other in boxes)]
            fewest = next(many for many in range(1, 8) if any(
                frozenset().union(*chosen) == set(cells) for chosen in itertools.combinations(boxes, many)))
            self.check(rule, cells, fewest)
            told[fewest] = told.get(fewest, 0) + 1
        self.assertGreater(min(told.get(many, 0) for many in (1, 2, 3, 4, 5)), 5, told)

    def test_several_pairs_of_kinds(self):
        for seed in range(100):
            draw = random.Random(seed)
            pairs = draw.sample(list(itertools.product(KINDS, KINDS)), draw.randint(1, 6))
            rule = Rule(KINDS, {"m": True, "n": False}, [("a", "a", ("any", "any"))])
            cells, fewest = [], 0
            for kind, base in pairs:
                ways = [(kind, base, (draw.choice(SIGNS), draw.choice(SIGNS))) for _ in range(draw.randint(1, 3))]
                cells += in_order(cells_of_ways(ways))
                fewest += fewest_by_search(in_order(cells_of_ways(ways)), 3)
            self.check(rule, cells, fewest)

    def test_twelve_and_thirteen(self):
        pairs = list(itertools.product(KINDS, KINDS))
        cells = [(kind, base, (stand, stand, stand)) for kind, base in pairs[:6] for stand in ("less", "more")]
        self.check(WIDE, cells, 12)
        self.check(WIDE, cells + [("e", "e", ("same",) * 3)], None)
        even = [("a", "a", stands) for stands in itertools.product(STANDS, repeat=3)
                if sum(NUMBERS[stand] for stand in stands) % 2]
        self.assertEqual(len(even), 14)
        self.check(WIDE, even, None)
        self.check(WIDE, even[1:], None)
        self.check(WIDE, even[2:], 12)

    def test_rules_are_told_with_no_more_ways_than_they_have(self):
        for seed in range(150):
            rule = random_rule(seed)
            ways = cells_of(rule).ways()
            self.assertLessEqual(len(ways), len(rule))
            self.assertEqual(cells_of_ways(ways), cells_of_ways(rule.ways()))

    def test_wrong_numbers(self):
        for value in [0, -1, 13, 10 ** 30, True, False, None, 1.0, "1", [1], (1,), {}, ([],), Nasty()]:
            for cells in (Cells(TWO, []), cells_of(TWO)):
                self.refused(BadNumber, value, cells.ways, value)
                self.refused(BadNumber, value, lambda: cells.ways(most=value))


class CellOfTest(Case):
    def test_stands(self):
        for number, step in itertools.product([0, -5, 10 ** 60], repeat=2):
            for stands in itertools.product(STANDS, repeat=2):
                marks = {"n": step, "m": number}
                base_marks = {"m": number + NUMBERS[stands[0]], "n": step + NUMBERS[stands[1]]}
                self.assertEqual(cell_of(TWO, "a", marks, "b", base_marks), ("a", "b", stands))
                self.assertEqual(cell_of(base_marks=base_marks, base_kind="b", marks=marks, kind="a", rule=TWO),
                                 ("a", "b", stands))
        self.assertTrue(all(sign_is_met(sign, 7, 7 + NUMBERS[stand]) == (stand in LETS[sign])
                            for sign in SIGNS for stand in STANDS))

    def test_wrong_values_in_order(self):
        kinds = ["c", "A", "", None, True, ["a"], {}, ([],), Nasty()]
        marks = [{}, {"m": 1}, {"m": 1, "n": 2, "o": 3}, {"m": 1, "n": True}, {"m": 1.0, "n": 2}, {"m": [], "n": 2},
                 (1, 2), [1, 2], None, {"m", "n"}, {1: 1, "n": 2}, Nasty()]
        good = {"m": 1, "n": 2}
        for value in odd_values():
            self.refused(BadArgument, value, cell_of, value, value, value, value, value)
        for kind, numbers, base, base_numbers in itertools.product(kinds, marks, kinds, marks[:3]):
            self.refused(BadKind, kind, cell_of, TWO, kind, numbers, base, base_numbers)
            self.refused(BadMarks, numbers, cell_of, TWO, "a", numbers, base, base_numbers)
            self.refused(BadKind, base, cell_of, TWO, "a", good, base, numbers)
            self.refused(BadMarks, numbers, cell_of, TWO, "a", good, "b", numbers)


if __name__ == "__main__":
    unittest.main()
