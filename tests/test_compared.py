"""[1] (g), [2], [18] and the interface of packedbases/compared.py."""

import itertools
import random
import unittest

from packedbases.cells import cells_of
from packedbases.compared import alike, lets_choice, parting, within
from packedbases.errors import BadArgument
from packedbases.rules import Rule
from packedbases.store import Store
from samples import ANY, SIGNS, Angry, Nasty, odd_values, one_measure, random_rule

FREELY = Rule(["k"], {"m": True}, [ANY])
CELL = ("k", "k", ("same",))
DEEPS = [None] + list(range(10))
TALLS = [None] + list(range(1, 10))
LIMITS = list(itertools.product(DEEPS, TALLS, [False, True]))
NO_CHOICES = [(CELL, 0, 0), (CELL, 0, 0, False, 0), [CELL, 0, 0, False], (CELL, -1, 0, False), (CELL, 0, -1, False),
              (CELL, True, 0, False), (CELL, 0, False, False), (CELL, 0, 0, 0), (CELL, 1, 1, 1), (CELL, 0, 0, None),
              (CELL, 0, 0, True), (CELL, 1, 0, True), (CELL, 0, 1, True), (CELL, 1.0, 0, False), (CELL, None, 0, False),
              (("k", "k", ("upto",)), 0, 0, False), (("k", "k", ["same"]), 0, 0, False), (["k", "k", ("same",)], 0, 0, False),
              (("k", "l", ("same",)), 0, 0, False), (("k", "k", ("same", "same")), 0, 0, False), (None, 0, 0, False),
              ([], 0, 0, False), (CELL, [], 0, False), (CELL, 0, {}, False), (CELL, 0, 0, []), CELL, None, "choice",
              (Nasty(), 0, 0, False), (CELL, Nasty(), 0, False), (CELL, 0, Nasty(), False), (CELL, 0, 0, Nasty()),
              (Angry(), Angry(), Angry(), Angry()), (CELL, 0, 0, Angry())]


def limited(rule, limits):
    return rule.limited(**dict(zip(("deep", "tall", "free"), limits)))


def limits_let(limits, depth, height, inside):
    """What [4] says of the limits, written once more."""
    deep, tall, free = limits
    return ((deep is None or depth <= deep) and (tall is None or depth + 1 + height <= tall)
            and not (free and inside))


def places(most=12):
    """All depths, heights and insides up to a sum, by their sums."""
    return [(depth, total - depth, inside) for total in range(most + 1) for depth in range(total + 1)
            for inside in (False, True) if not inside or 1 <= depth < total]


PLACES = places()
LET = {limits: {place for place in PLACES if limits_let(limits, *place)} for limits in LIMITS}


def random_limits(draw):
    return (draw.choice([None, None, *DEEPS]), draw.choice([None, None, *TALLS]), draw.random() < 0.5)


def kin_of(draw, rule):
    """Another rule of the same kinds and measures, often with some of the same ways."""
    ways = {way: 1 for way in rule.ways() if draw.random() < 0.7}
    while not ways or draw.random() < 0.4 and len(ways) < 12:
        ways[draw.choice(rule.kinds()), draw.choice(rule.kinds()), tuple(draw.choice(SIGNS) for _ in rule.measures())] = 1
    return Rule(rule.kinds(), {measure: rule.stays(measure) for measure in rule.measures()}, list(ways))


class Case(unittest.TestCase):
    def refused(self, value, act, *parts):
        with self.assertRaises(BadArgument) as caught:
            act(*parts)
        self.assertIs(caught.exception.value, value)


class ChoiceTest(Case):
    def test_all_limits_and_one_beyond(self):
        for limits in LIMITS:
            rule = limited(FREELY, limits)
            for place in PLACES:
                self.assertIs(lets_choice(rule, (CELL,) + place), limits_let(limits, *place))
        self.assertIs(lets_choice(choice=(CELL, 9, 0, False), rule=FREELY.limited(deep=9)), True)
        self.assertIs(lets_choice(FREELY.limited(deep=9), (CELL, 10, 0, False)), False)
        self.assertIs(lets_choice(FREELY.limited(tall=9), (CELL, 4, 4, False)), True)
        self.assertIs(lets_choice(FREELY.limited(tall=9), (CELL, 4, 5, False)), False)
        self.assertIs(lets_choice(FREELY, (CELL, 10 ** 40, 10 ** 40, True)), True)
        self.assertIs(lets_choice(FREELY.limited(free=True), (CELL, 10 ** 40, 1, True)), False)

    def test_cells(self):
        for seed in range(60):
            rule = random_rule(seed).limited(deep=1)
            cells = cells_of(rule)
            for cell in (~cells | cells).cells()[::3]:
                self.assertIs(lets_choice(rule, (cell, 1, 0, False)), cell in cells)
                self.assertIs(lets_choice(rule, (cell, 2, 0, False)), False)

    def test_wrong_values(self):
        for choice in NO_CHOICES + odd_values():
            for rule in (FREELY, FREELY.limited(deep=0, tall=1, free=True), one_measure(["less"])):
                self.refused(choice, lets_choice, rule, choice)
        for value in odd_values():
            self.refused(value, lets_choice, value, value)
            self.refused(value, lets_choice, value, (CELL, 0, 0, False))

    def test_what_a_store_lets_by(self):
        for limits in itertools.product([None, 0, 1], [None, 1, 2, 3, 4], [False, True]):
            rule = limited(FREELY, limits)
            store = Store(rule)
            for word in "abcde":
                store.put(word, "k", {"m": 0})
            for packer, pair in enumerate(["ab", "bc", "de"], 1):
                if store.lets_by(*pair):
                    store.ask(packer, *pair)
            for packer in store.pending():
                store.write(packer)
            for word, base in itertools.permutations("abcde", 2):
                choice = (CELL, store.depth(base), store.height(word), word in store.chain(base))
                self.assertIs(store.lets_by(word, base), lets_choice(rule, choice))


class ComparedTest(Case):
    def check(self, one, other, limits, other_limits):
        """Held against all choices of small depths and heights."""
        cells, other_cells = set(cells_of(one).cells()), set(cells_of(other).cells())
        let, other_let = LET[limits], LET[other_limits]
        is_within = cells <= other_cells and let <= other_let
        is_over = other_cells <= cells and other_let <= let
        self.assertIs(within(one, other), is_within)
        self.assertIs(within(other, one), is_over)
        self.assertIs(alike(one, other), is_within and is_over)
        told = parting(one, other)
        self.assertEqual(told is None, is_within and is_over)
        if told is None:
            return None
        number, choice = told
        self.assertEqual((type(told), type(number), type(choice), len(choice)), (tuple, int, tuple, 4))
        lets = [lets_choice(one, choice), lets_choice(other, choice)]
        self.assertEqual(lets, [number == 0, number == 1])
        least = 0 if cells != other_cells else min(
            place[0] + place[1] for place in PLACES if (place in let) != (place in other_let))
        self.assertEqual(choice[1] + choice[2], least)
        self.assertEqual(parting(one=one, other=other), told)
        return least

    def test_all_pairs_of_limits(self):
        told = {}
        rules = {limits: limited(FREELY, limits) for limits in LIMITS}
        for limits in LIMITS[::5] + LIMITS[-4:]:
            for other in LIMITS:
                least = self.check(rules[limits], rules[other], limits, other)
                told[least] = told.get(least, 0) + 1
        self.assertEqual(sorted(told, key=str), sorted([None, *range(1, 11)], key=str))

    def test_limits_that_bind_nothing_more(self):
        for one, other in (({"tall": 3}, {"tall": 3, "deep": 2}), ({"tall": 2}, {"tall": 2, "free": True}),
                           ({"deep": 0}, {"deep": 0, "free": True}), ({"tall": 1}, {"tall": 1, "deep": 0, "free": True}),
                           ({"tall": 9}, {"tall": 9, "deep": 8})):
            self.assertIs(alike(one=FREELY.limited(**one), other=FREELY.limited(**other)), True)
            self.assertIs(within(one=FREELY.limited(**one), other=FREELY.limited(**other)), True)
        for one, other, place in (({"tall": 3}, {"tall": 3, "deep": 1}, (2, 0, False)),
                                  ({"tall": 3}, {"tall": 3, "free": True}, (1, 1, True)),
                                  ({"deep": 1}, {"deep": 1, "free": True}, (1, 1, True)),
                                  ({}, {"deep": 9}, (10, 0, False)), ({"deep": 9}, {"deep": 8}, (9, 0, False))):
            self.assertEqual(parting(FREELY.limited(**one), FREELY.limited(**other))[1][1:], place)
            self.assertEqual(parting(FREELY.limited(**other), FREELY.limited(**one))[0], 1)

    def test_ways_that_differ_and_cells_that_do_not(self):
        one = one_measure(["upto", "more"])
        for signs in (["any"], ["less", "from"], ["less", "same", "more"], SIGNS):
            other = one_measure(signs)
            self.assertIs(alike(one, other), True)
            self.assertIs(within(one, other), True)
            self.assertIsNone(parting(one, other))
            self.assertIs(alike(one, other.limited(deep=0)), False)
        split = Rule(["a", "b"], {"x": True, "y": False}, [("a", "b", ("less", "any")), ("a", "b", ("from", "any"))])
        other = Rule(["a", "b"], {"x": True, "y": False}, [("a", "b", ("any", sign)) for sign in ("same", "less", "from")])
        self.assertIs(alike(split, other), True)
        self.assertIs(within(split, one_less := split - Rule(["a", "b"], {"x": True, "y": False}, split.ways()[:1])), False)
        self.assertIs(within(one_less, other), True)

    def test_many_rules(self):
        told = {}
        for seed in range(1200):
            draw = random.Random(seed)
            rule = random_rule(seed, kinds=draw.choice([1, 2, 5]), ways=draw.choice([2, 12]))
            limits, other_limits = random_limits(draw), random_limits(draw)
            other = rule if draw.random() < 0.4 else kin_of(draw, rule)
            least = self.check(limited(rule, limits), limited(other, other_limits), limits, other_limits)
            key = (least, within(limited(rule, limits), limited(other, other_limits)))
            told[key] = told.get(key, 0) + 1
        self.assertGreater(min(told.get(key, 0) for key in ((None, True), (0, True), (0, False), (1, False), (2, False),
                                                            (3, True))), 3, told)

    def test_twelve_ways_five_kinds_and_three_measures(self):
        kinds = ["a", "b", "c", "d", "e"]
        pairs = list(itertools.product(kinds, kinds))
        stays = {"x": True, "y": False, "z": True}
        one = Rule(kinds, stays, [(kind, base, ("upto", "any", "from")) for kind, base in pairs[:12]])
        other = Rule(kinds, stays, [(kind, base, ("any", "any", "any")) for kind, base in pairs[:12]])
        for limits, other_limits in (((9, 9, True), (None, None, False)), ((8, 9, False), (9, 9, True))):
            self.check(limited(one, limits), limited(other, other_limits), limits, other_limits)
            self.check(limited(other, limits), limited(other, other_limits), limits, other_limits)

    def test_wrong_values(self):
        unlike = [Rule(["j"], {"m": True}, [("j", "j", ("any",))]), one_measure(["any"], False),
                  Rule(["k"], {"n": True}, [ANY]), Rule(["k", "l"], {"m": True}, [ANY])]
        for act in (within, alike, parting):
            for value in odd_values():
                self.refused(value, act, value, value)
                self.refused(value, act, value, FREELY)
                self.refused(value, act, FREELY, value)
                self.refused(value, lambda: act(other=None, one=value))
            for other in unlike:
                self.refused(other, act, FREELY, other)
                self.refused(FREELY, act, other, FREELY)


if __name__ == "__main__":
    unittest.main()
