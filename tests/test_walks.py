"""[2], [7] and the interface of packedbases/walks.py."""

import itertools
import unittest

from packedbases.errors import BadArgument, BadWalk
from packedbases.falling import paper_of
from packedbases.rules import Rule
from packedbases.walks import good_walk, is_good, is_walk, ring_marks
from samples import ANY, LESS, MORE, SIGNS, odd_values, one_measure, random_rule, round_rule, sign_is_met, sparse_rule

AB = ("a", "b", ("same",))
BA = ("b", "a", ("less",))
BC = ("b", "c", ("same",))
CA = ("c", "a", ("more",))
CC = ("c", "c", ("upto",))
ROUNDS = Rule(["a", "b", "c"], {"m": True}, [AB, BA, BC, CA, CC])


def signs_are_met(signs):
    """[7], word for word."""
    down = "less" in signs or "upto" in signs
    up = "more" in signs or "from" in signs
    return "any" in signs or (down and up) or ("less" not in signs and "more" not in signs)


def ring_is_met(signs, numbers):
    """Whether numbers of a ring of things, each one the base of the one ahead, meet the signs."""
    return all(sign_is_met(sign, numbers[at], numbers[(at + 1) % len(numbers)]) for at, sign in enumerate(signs))


def walk_is_good(rule, walk):
    """Whether the signs of a walk are met, for the measures that stay."""
    return all(signs_are_met([way[2][place] for way in walk])
               for place, measure in enumerate(rule.measures()) if rule.stays(measure))


def fewest_ways(rule, most):
    """The length, up to a greatest one, of the shortest good closed walk; None if there is none so short."""
    ways = rule.ways()
    states = {(way[0], way[1], 1 << at) for at, way in enumerate(ways)}
    for length in range(2, most + 1):
        states = {(start, way[1], used | 1 << at) for start, end, used in states
                  for at, way in enumerate(ways) if way[0] == end}
        for start, end, used in states:
            if start == end and walk_is_good(rule, [way for at, way in enumerate(ways) if used >> at & 1]):
                return length
    return None


class IsWalkTest(unittest.TestCase):
    def test_closed_walks(self):
        for walk in ([AB, BA], [BA, AB], [AB, BC, CA], [BC, CA, AB], [AB, BC, CC, CA], [AB, BA, AB, BA], [CC, CC],
                     [AB, BC, CC, CC, CA, AB, BA]):
            self.assertIs(is_walk(ROUNDS, walk), True)
            self.assertIs(is_walk(ROUNDS, tuple(walk)), True)

    def test_walks_that_are_not_closed(self):
        for walk in ([], [AB], [CC], [AB, BC], [BA, BC], [AB, AB], [AB, CA], [AB, BC, CC], [CC, CA], [BC, CC, CC],
                     [AB, BC, CA, AB]):
            self.assertIs(is_walk(ROUNDS, walk), False)
            self.assertIs(is_walk(ROUNDS, tuple(walk)), False)

    def test_ways_that_the_rule_has_not(self):
        for way in (("a", "b", ("less",)), ("a", "b", ["same"]), ["a", "b", ("same",)], ("a", "b", ("same", "same")),
                    ("a", "b", "same"), ("a", "d", ("same",)), None, "ab"):
            self.assertIs(is_walk(ROUNDS, [way, BA]), False)
            self.assertIs(is_walk(ROUNDS, [AB, BC, CA, way, BA]), False)

    def test_any_value(self):
        for value in odd_values() + [{0: AB, 1: BA}, {AB: 1, BA: 2}, {AB, BA}, iter([AB, BA]), "abba", AB]:
            self.assertIs(is_walk(ROUNDS, value), False)
            self.assertIs(is_walk(one_measure(["any"]), value), False)

    def test_only_rules(self):
        for value in odd_values():
            for act in (is_walk, is_good, ring_marks):
                with self.assertRaises(BadArgument) as caught:
                    act(value, value)
                self.assertIs(caught.exception.value, value)
            with self.assertRaises(BadArgument) as caught:
                good_walk(value)
            self.assertIs(caught.exception.value, value)


class IsGoodTest(unittest.TestCase):
    def test_all_rings_of_two_to_four_signs(self):
        rule = one_measure(SIGNS)
        for length in (2, 3, 4):
            rings = list(itertools.product(range(length), repeat=length))
            for signs in itertools.product(SIGNS, repeat=length):
                wanted = any(ring_is_met(signs, numbers) for numbers in rings)
                self.assertEqual(wanted, signs_are_met(signs))
                self.assertIs(is_good(rule, [("k", "k", (sign,)) for sign in signs]), wanted, signs)
                self.assertIs(is_good(rule, tuple(("k", "k", (sign,)) for sign in signs)), wanted, signs)

    def test_measures_that_move_do_not_matter(self):
        moving = one_measure(["less"], stays=False)
        self.assertIs(is_good(moving, [LESS, LESS]), True)
        self.assertIs(is_good(one_measure(["less"]), [LESS, LESS]), False)
        for signs in itertools.product(SIGNS, repeat=2):
            ways = [("k", "k", (sign, "same")) for sign in set(signs)]
            walk = [("k", "k", (sign, "same")) for sign in signs]
            self.assertIs(is_good(Rule(["k"], {"a": False, "b": True}, ways), walk), True)

    def test_each_measure_that_stays_must_be_met(self):
        for first, second in itertools.product(["less", "upto"], ["more", "from", "any"]):
            for place in range(3):
                walk = [("k", "k", ("less", "less", "less")[:place] + (sign,) + ("less", "less")[place:])
                        for sign in (first, second)]
                stays = {measure: at == place for at, measure in enumerate("abc")}
                self.assertIs(is_good(Rule(["k"], stays, walk), walk), True)
                self.assertIs(is_good(Rule(["k"], {word: True for word in "abc"}, walk), walk), False)

    def test_a_way_that_comes_again(self):
        self.assertIs(is_good(ROUNDS, [AB, BA, AB, BC, CA]), True)
        self.assertIs(is_good(ROUNDS, [AB, BA, AB, BA]), False)
        self.assertIs(is_good(ROUNDS, [CC, CC, CC]), True)

    def test_values_that_are_no_closed_walk(self):
        for value in odd_values() + [[AB], (AB, BC), [AB, BC, CC], [CC], "abba", ["a"]]:
            for act in (is_good, ring_marks):
                with self.assertRaises(BadWalk) as caught:
                    act(ROUNDS, value)
                self.assertIs(caught.exception.value, value)


class GoodWalkTest(unittest.TestCase):
    def test_one_way_is_used_twice(self):
        for sign in ("any", "same", "upto", "from"):
            self.assertEqual(good_walk(one_measure([sign])), [("k", "k", (sign,))] * 2)
        for sign in ("less", "more"):
            self.assertIsNone(good_walk(one_measure([sign])))
            self.assertEqual(good_walk(one_measure([sign], stays=False)), [("k", "k", (sign,))] * 2)

    def test_two_ways(self):
        self.assertIn(good_walk(one_measure(["less", "more"])), [[LESS, MORE], [MORE, LESS]])
        self.assertIsNone(good_walk(Rule(["a", "b"], {"m": True}, [AB, BA])))
        self.assertIsNone(good_walk(Rule(["a", "b"], {"m": False}, [AB])))

    def test_limits_do_not_matter(self):
        rule = one_measure(["any"]).limited(deep=0, tall=1, free=True)
        self.assertEqual(good_walk(rule), [ANY, ANY])

    def test_a_way_that_must_come_again(self):
        walk = good_walk(ROUNDS - Rule(["a", "b", "c"], {"m": True}, [CC]))
        self.assertEqual((len(walk), walk.count(AB)), (5, 2))
        self.assertEqual(good_walk(ROUNDS), [CC, CC])

    def test_long_rounds(self):
        kinds = ["a", "b", "c", "d", "e"]
        around = [(kind, kinds[at - 4], ("same", "same", "same")) for at, kind in enumerate(kinds)]
        stays = {"x": True, "y": True, "z": True}
        self.assertEqual(len(good_walk(Rule(kinds, stays, around))), 5)
        strict = [("a", "b", ("less", "more", "less"))] + around[1:]
        self.assertIsNone(good_walk(Rule(kinds, stays, strict)))
        turns = [("c", "c", ("more", "same", "less")), ("d", "d", ("less", "less", "less")),
                 ("e", "e", ("less", "same", "any"))]
        self.assertEqual(len(good_walk(Rule(kinds, stays, strict + turns))), 8)
        self.assertIsNone(good_walk(Rule(kinds, stays, strict + turns[:2])))
        self.assertIsNone(good_walk(Rule(kinds, stays, strict + turns[1:])))
        self.assertIsNone(good_walk(Rule(kinds, stays, strict + turns[::2])))

    def test_as_few_ways_as_possible_for_many_rules(self):
        lengths = {}
        for seed in range(4000):
            rule = (sparse_rule, random_rule, round_rule, round_rule)[seed % 4](seed)
            walk = good_walk(rule)
            lengths[walk and len(walk)] = lengths.get(walk and len(walk), 0) + 1
            if walk is None:
                self.assertIsNotNone(paper_of(rule))
                self.assertIsNone(fewest_ways(rule, 6))
            else:
                self.assertIs(type(walk), list)
                self.assertTrue(is_walk(rule, walk) and walk_is_good(rule, walk))
                self.assertEqual(fewest_ways(rule, len(walk)), len(walk))
        self.assertGreater(min(lengths.get(length, 0) for length in (None, 2, 3, 4, 5, 6, 7, 8)), 2, lengths)

    def test_the_same_for_each_call_and_belonging_to_the_caller(self):
        for seed in range(50):
            rule = random_rule(seed)
            walk = good_walk(rule)
            if walk is not None:
                walk.append(walk[0])
                self.assertEqual(good_walk(rule), walk[:-1])


class RingMarksTest(unittest.TestCase):
    def check(self, rule, walk):
        marks = ring_marks(rule, walk)
        self.assertIs(type(marks), list)
        self.assertEqual(len(marks), len(walk))
        for numbers in marks:
            self.assertEqual(list(numbers), rule.measures())
            self.assertTrue(all(type(number) is int for number in numbers.values()))
        for place, measure in enumerate(rule.measures()):
            if rule.stays(measure):
                signs = [way[2][place] for way in walk]
                self.assertTrue(ring_is_met(signs, [numbers[measure] for numbers in marks]), (signs, marks))
        if all([rule.stays(measure) for measure in rule.measures()]):
            for at, way in enumerate(walk):
                self.assertTrue(rule.lets_by(way[0], marks[at], way[1], marks[(at + 1) % len(walk)]))

    def test_all_rings_of_two_to_five_signs(self):
        rule = one_measure(SIGNS)
        for length in (2, 3, 4, 5):
            for signs in itertools.product(SIGNS, repeat=length):
                walk = [("k", "k", (sign,)) for sign in signs]
                if signs_are_met(signs):
                    self.check(rule, walk)
                else:
                    with self.assertRaises(BadWalk) as caught:
                        ring_marks(rule, walk)
                    self.assertIs(caught.exception.value, walk)

    def test_tuples_and_ways_that_come_again(self):
        self.check(ROUNDS, (AB, BA, AB, BC, CC, CA))
        self.check(ROUNDS, [BC, CA, AB, BA, AB])
        self.check(ROUNDS, [CC, CC])

    def test_measures_that_move_have_numbers_too(self):
        for signs in itertools.product(SIGNS, repeat=3):
            walk = [("k", "k", (sign, other)) for sign, other in zip(signs, ["less", "from", "upto"])]
            self.check(Rule(["k"], {"a": False, "b": True}, list(dict.fromkeys(walk))), walk)

    def test_good_walks_of_many_rules(self):
        for seed in range(400):
            rule = sparse_rule(seed) if seed % 2 else random_rule(seed)
            walk = good_walk(rule)
            if walk is not None:
                self.check(rule, walk)
                self.check(rule, tuple(walk + walk))

    def test_dicts_belong_to_the_caller(self):
        walk = [AB, BC, CA, AB, BA]
        marks = ring_marks(ROUNDS, walk)
        before = [dict(numbers) for numbers in marks]
        marks[0]["m"] = 99
        self.assertEqual(marks[1:], before[1:])
        marks.clear()
        self.assertEqual(ring_marks(ROUNDS, walk), before)
        self.assertEqual(walk, [AB, BC, CA, AB, BA])


if __name__ == "__main__":
    unittest.main()
