"""[1], [2], [8] and the interface of packedbases/rings.py."""

import itertools
import random
import unittest

from model import all_leans, limits_of, reached
from packedbases.chains import longest
from packedbases.errors import BadArgument, BadNumber
from packedbases.falling import paper_of
from packedbases.rings import closes, least_ring, most_things, ring_script
from packedbases.rules import Rule
from packedbases.store import Store, played
from packedbases.walks import good_walk
from samples import ANY, SIGNS, odd_values, one_measure, random_rule, round_rule, sign_is_met, sparse_rule

FREELY = Rule(["k"], {"m": True}, [ANY])
NO_PACKERS = [0, -1, 10, 10 ** 30, True, False, None, 1.0, "1", "", b"1", [1], (1,), {}, {1: 1}, ([],), object()]
DEEPS = [None] + list(range(10))
TALLS = [None] + list(range(1, 10))


def all_limits(rule):
    """The rule with all limits."""
    return [rule.limited(deep=deep, tall=tall, free=free)
            for deep, tall, free in itertools.product(DEEPS, TALLS, [False, True])]


def around(many):
    """A rule of which the shortest good closed walk has so many ways, two or more."""
    if many <= 5:
        kinds = ["a", "b", "c", "d", "e"][:many]
        return Rule(kinds, {"m": True}, [(kind, kinds[at - 1], ("same",)) for at, kind in enumerate(kinds)])
    kinds = ["a", "b", "c", "d", "e"]
    ways = [(kind, kinds[at - 1], ("same", "same")) for at, kind in enumerate(kinds)]
    ways[0] = ("a", "e", ("less", "more"))
    if many == 6:
        return Rule(kinds, {"m": True, "n": True}, ways + [("b", "b", ("more", "less"))])
    return Rule(kinds, {"m": True, "n": True}, ways + [("b", "b", ("more", "same")), ("b", "b", ("same", "less"))])


def allows(rule, packers, many):
    """[8], word for word: whether the limits let so many packers close a ring of so many things."""
    if packers == 1:
        return (rule.free is False and (rule.deep is None or many <= rule.deep + 1)
                and (rule.tall is None or 2 * many - 1 <= rule.tall))
    return packers > 2 or rule.tall is None or many <= rule.tall + 1


class LimitsTest(unittest.TestCase):
    def test_the_example_of_the_document(self):
        rule = FREELY.limited(deep=0, tall=2)
        self.assertEqual([least_ring(rule, packers) for packers in [1, 2, 3]], [None, 2, 2])
        self.assertEqual([longest(rule, packers) for packers in [1, 2]], [2, None])

    def test_most_things_for_all_limits(self):
        for rule in all_limits(FREELY):
            for packers in range(1, 10):
                allowed = [many for many in range(2, 30) if allows(rule, packers, many)]
                wanted = None if allowed[-1:] == [29] else max(allowed, default=0)
                told = most_things(rule, packers)
                self.assertEqual((told, type(told)), (wanted, type(wanted)), (limits_of(rule), packers))

    def test_most_things_at_the_edges(self):
        told = lambda packers, **limits: most_things(FREELY.limited(**limits), packers)
        self.assertEqual([told(1), told(1, deep=0), told(1, deep=1), told(1, deep=9)], [None, 0, 2, 10])
        self.assertEqual([told(1, tall=tall) for tall in (1, 2, 3, 4, 5, 9)], [0, 0, 2, 2, 3, 5])
        self.assertEqual([told(1, deep=3, tall=5), told(1, deep=1, tall=9), told(1, free=True)], [3, 2, 0])
        self.assertEqual([told(2, tall=tall) for tall in (1, 2, 9)], [2, 3, 10])
        self.assertEqual([told(2), told(2, deep=0, free=True), told(3, deep=0, tall=1, free=True)], [None] * 3)

    def test_least_ring_for_all_limits_and_walks(self):
        for many in range(2, 8):
            self.assertEqual(len(good_walk(around(many))), many)
            for rule in all_limits(around(many)):
                for packers in (1, 2, 3, 9):
                    wanted = many if allows(rule, packers, many) else None
                    self.assertEqual(least_ring(rule, packers), wanted)
                    self.assertIs(closes(rule, packers), wanted is not None)
                    self.assertEqual(ring_script(rule, packers) is None, wanted is None)

    def test_no_good_closed_walk(self):
        for rule in (one_measure(["less"]), one_measure(["more"]), Rule(["a", "b"], {"m": True}, [("a", "b", ("any",))])):
            for packers in range(1, 10):
                self.assertIsNone(least_ring(rule, packers))
                self.assertIsNone(ring_script(rule, packers))
                self.assertIs(closes(rule, packers), False)
                self.assertIsNone(most_things(rule, packers))

    def test_wrong_values(self):
        for act in (most_things, least_ring, closes, ring_script):
            for value in odd_values():
                for packers in [1, None, 0, value]:
                    with self.assertRaises(BadArgument) as caught:
                        act(value, packers)
                    self.assertIs(caught.exception.value, value)
            for rule in (FREELY, one_measure(["less"])):
                for packers in NO_PACKERS:
                    with self.assertRaises(BadNumber) as caught:
                        act(rule=rule, packers=packers)
                    self.assertIs(caught.exception.value, packers)
            act(packers=9, rule=FREELY)


class ScriptTest(unittest.TestCase):
    def check(self, rule, packers):
        script = ring_script(rule, packers)
        if least_ring(rule, packers) is None:
            self.assertIsNone(script)
            return
        self.assertIs(type(script), list)
        many = least_ring(rule, packers)
        store = Store(rule)
        for deed in script:
            self.assertIsNone(store.ring())
            self.assertIs(type(deed), tuple)
            store.do(deed)
        self.assertEqual((len(store.ring()), sorted(store.ring())), (many, store.words()))
        self.assertEqual([deed[0] for deed in script].count("put"), many)
        self.assertLessEqual({deed[0] for deed in script}, {"put", "mark", "ask", "write"})
        self.assertLessEqual({deed[1] for deed in script if deed[0] in ("ask", "write")}, set(range(1, packers + 1)))
        self.assertEqual(played(rule, script).ring(), store.ring())
        self.assertEqual(ring_script(rule, packers), script)

    def test_all_limits_and_packers(self):
        for many in range(2, 8):
            for rule in all_limits(around(many)):
                for packers in (1, 2, 3, 4):
                    self.check(rule, packers)
        for rule in all_limits(FREELY):
            self.check(rule, 9)

    def test_measures_that_move(self):
        for signs in itertools.product(["less", "more", "same", "upto", "from", "any"], repeat=2):
            ways = [("k", "k", (sign, "any")) for sign in dict.fromkeys(signs)]
            for rule in all_limits(Rule(["k"], {"a": False, "b": True}, ways))[::7]:
                for packers in (1, 2, 3):
                    self.check(rule, packers)
        turned = Rule(["a", "b", "c"], {"m": False, "n": False},
                      [("a", "b", ("less", "same")), ("b", "c", ("less", "more")), ("c", "a", ("less", "more"))])
        for rule in all_limits(turned):
            for packers in (1, 2, 3):
                self.check(rule, packers)
                marks = [deed for deed in ring_script(rule, packers) or [] if deed[0] == "mark"]
                self.assertTrue(marks or not closes(rule, packers))

    def test_many_rules(self):
        closed = 0
        for seed in range(600):
            rule = (sparse_rule, random_rule, round_rule)[seed % 3](seed)
            limits = all_limits(rule)
            for packers in (1, 2, 3):
                self.check(rule, packers)
                self.check(limits[seed * 7 % len(limits)], packers)
            # Without limits a rule has just one of both.
            self.assertEqual(closes(rule, 1), paper_of(rule) is None)
            closed += closes(rule, 1)
        self.assertTrue(100 < closed < 500, closed)

    def test_twelve_ways(self):
        kinds = ["a", "b", "c", "d", "e"]
        ways = [(kind, kinds[at - 1], ("same",) * 3) for at, kind in enumerate(kinds)]
        ways[0] = ("a", "e", ("less", "less", "less"))
        ways += [(kind, kind, ("more", "same", "same")) for kind in "bc"] + [("d", "d", ("less", "more", "same"))]
        ways += [(kind, kind, ("same", "less", "more")) for kind in "abcd"]
        rule = Rule(kinds, {"x": True, "y": True, "z": True}, ways)
        self.assertEqual((len(rule), least_ring(rule, 1)), (12, 8))
        for limited in all_limits(rule):
            for packers in (1, 2, 3):
                self.check(limited, packers)

    def test_the_list_belongs_to_the_caller(self):
        script = ring_script(FREELY, 2)
        kept = list(script)
        script.clear()
        self.assertEqual(ring_script(FREELY, 2), kept)


class AllOrdersTest(unittest.TestCase):
    """[8] held against all that can become of a few things."""

    def rings(self, many, limits, packers, leans=None):
        leans = tuple(itertools.permutations(range(many), 2)) if leans is None else leans
        return {len(ring) for ring in reached(many, leans, limits, packers)[0]}

    def test_two_and_three_things_that_may_all_lean(self):
        for rule in all_limits(FREELY):
            deep, tall, free = limits_of(rule)
            if (deep is None or deep < 4) and (tall is None or tall < 7):
                for many, packers in ((2, 1), (2, 2), (2, 3), (3, 1), (3, 2)):
                    wanted = {ring for ring in range(2, many + 1) if allows(rule, packers, ring)}
                    self.assertEqual(self.rings(many, (deep, tall, free), packers), wanted)

    def test_three_packers_are_bound_by_nothing(self):
        for limits in ((0, 1, True), (0, None, True), (None, 1, False)):
            self.assertEqual(self.rings(3, limits, 3), {2, 3})

    def test_four_things(self):
        cycle = ((0, 1), (1, 2), (2, 3), (3, 0))
        for tall, wanted in ((1, set()), (2, set()), (3, {4}), (None, {4})):
            self.assertEqual(self.rings(4, (0, tall, True), 2, cycle), wanted)
        for limits, wanted in (((2, 9, False), set()), ((3, 6, False), set()), ((3, 7, False), {4}),
                               ((None, None, True), set())):
            self.assertEqual(self.rings(4, limits, 1, cycle), wanted)
        self.assertEqual(self.rings(4, (None, 2, False), 2), {2, 3})

    def test_rules_held_against_all_things_with_small_numbers(self):
        told = {}
        for seed in range(160):
            rule = (sparse_rule, turning_rule, turning_rule, random_rule)[seed % 4](seed)
            limits = all_limits(rule)[seed * 31 % 200]
            for packers in (1, 2):
                least = self.least(limits, packers)
                wanted = least_ring(limits, packers)
                self.assertEqual(least, wanted if wanted in (2, 3) else None, (rule.ways(), limits_of(limits)))
                told[least] = told.get(least, 0) + 1
        self.assertTrue(min(told.get(least, 0) for least in (None, 2, 3)) > 5, told)

    def least(self, rule, packers):
        """The fewest things, of two or three, that packers can close a ring of, by trying all."""
        for many in (2, 3):
            for leans in leans_of(rule, many):
                if many in self.rings(many, limits_of(rule), packers, leans):
                    return many
        return None

    def test_marks_among_the_deeds(self):
        for signs in itertools.product(["less", "more", "same"], ["less", "from", "any"]):
            rule = Rule(["k"], {"a": False, "m": True}, [("k", "k", signs)])
            for deep, tall, free in itertools.product([None, 0], [None, 1], [False, True]):
                limited = rule.limited(deep=deep, tall=tall, free=free)
                for packers in (1, 2):
                    wanted = least_ring(limited, packers) == 2
                    self.assertIs(self.two_close(limited, packers), wanted, (signs, deep, tall, free, packers))

    def two_close(self, rule, packers):
        """Whether two things come to be a ring, by all orders of deeds of a store with the numbers 0 and 1."""
        for number in (0, 1):
            start = [("put", "a", "k", (0, 0)), ("put", "b", "k", (0, number))]
            seen, waiting = set(), [start]
            while waiting:
                script = waiting.pop()
                store = played(rule, script)
                if store.ring():
                    return True
                state = str([store.forms(), store.pending(), store.marks_of("a"), store.marks_of("b")])
                if state not in seen:
                    seen.add(state)
                    waiting += [script + [deed] for deed in self.deeds_at(store, packers)]
        return False

    def deeds_at(self, store, packers):
        deeds = [("mark", word, "a", number) for word in "ab" for number in (0, 1)]
        deeds += [("whole", word) for word in "ab"]
        for packer in range(1, packers + 1):
            if packer in store.pending():
                deeds += [("write", packer), ("stop", packer)]
            else:
                deeds += [("ask", packer, *pair) for pair in ("ab", "ba") if store.lets_by(*pair)]
        return deeds


def turning_rule(seed):
    """A rule of three kinds, of which some ring of three things may be the least."""
    draw = random.Random(seed)
    ways = {(kind, base, (draw.choice(SIGNS), draw.choice(SIGNS))): True for kind, base in ["ab", "bc", "ca", "bb"]}
    return Rule(["a", "b", "c"], {"m": True, "n": draw.random() < 0.5}, list(ways)[:draw.choice([3, 3, 4])])


def leans_of(rule, many):
    """Which of so many things may lean on which, for all their kinds and small numbers that stay."""
    places = [at for at, measure in enumerate(rule.measures()) if rule.stays(measure)]
    found = {}
    things = list(itertools.product(rule.kinds(), itertools.product(range(many), repeat=len(places))))
    leans = {(thing, base): any(way[:2] == (thing[0], base[0]) and
                                all(sign_is_met(way[2][place], number, base_number)
                                    for place, number, base_number in zip(places, thing[1], base[1]))
                                for way in rule.ways())
             for thing, base in itertools.product(things, things)}
    # Which of the things is told first does not matter.
    for chosen in itertools.combinations_with_replacement(things, many):
        found[tuple((at, other) for at, other in itertools.permutations(range(many), 2)
                    if leans[chosen[at], chosen[other]])] = True
    return list(found)


class LeansTest(unittest.TestCase):
    def test_all_leans_of_three_things(self):
        for leans in all_leans(3):
            for limits in ((None, None, False), (1, None, False), (None, 4, False), (None, 5, False), (0, 1, True)):
                rings, _ = reached(3, leans, limits, 1)
                for ring in rings:
                    self.assertTrue(all(pair in leans for pair in zip(ring, ring[1:] + ring[:1])))
                wanted = {line for line in itertools.chain(itertools.permutations(range(3), 2),
                                                           itertools.permutations(range(3), 3))
                          if line[0] == min(line) and all(pair in leans for pair in zip(line, line[1:] + line[:1]))
                          and allows(FREELY.limited(deep=limits[0], tall=limits[1], free=limits[2]), 1, len(line))}
                self.assertEqual(rings, wanted)


if __name__ == "__main__":
    unittest.main()
