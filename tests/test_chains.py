"""[1] (e), [2], [11], [12] and the interface of packedbases/chains.py."""

import itertools
import random
import unittest

from model import all_leans, reached
from packedbases.chains import (chain_deeds, chain_paper, chain_walk, count_closed, count_good, count_walks, longest,
                                shown_bound, shows_endless)
from packedbases.errors import BadArgument, BadKind, BadNumber
from packedbases.rules import Rule
from packedbases.store import Store
from samples import ANY, KINDS, SIGNS, Angry, Nasty, odd_values, one_measure, random_rule, sparse_rule

FREELY = Rule(["k"], {"m": True}, [ANY])
AB, BC, AC = ("a", "b", ("less",)), ("b", "c", ("more",)), ("a", "c", ("any",))
LINE = Rule(["a", "b", "c", "d"], {"m": True}, [AB, BC, AC])
NO_NUMBERS = [-1, -10 ** 30, 10 ** 30, True, False, None, 1.0, "1", "", [1], (1,), {}, {1: 1}, ([],), object(), Nasty()]
NO_PACKERS = [0, 10] + NO_NUMBERS
TALLS = [None] + list(range(1, 10))


def climbing_rule(seed):
    """A rule that mostly has a longest walk."""
    draw = random.Random(seed)
    kinds = draw.sample(KINDS, draw.randint(2, 5))
    pairs = [pair for pair in itertools.combinations(kinds, 2) if draw.random() < 0.7] or [tuple(kinds[:2])]
    if draw.random() < 0.2:
        pairs.append(tuple(draw.choices(kinds, k=2)))
    stays = {"m": draw.random() < 0.5, "n": True}
    ways = {(kind, base, (draw.choice(SIGNS), draw.choice(SIGNS))): True for kind, base in pairs}
    return Rule(kinds, stays, list(ways)[:12], tall=draw.choice(TALLS))


def all_walks(rule, length):
    """All walks of so many ways, one or more."""
    walks = [[way] for way in rule.ways()]
    for _ in range(length - 1):
        walks = [walk + [way] for walk in walks for way in rule.ways() if walk[-1][1] == way[0]]
    return walks


def longest_walk(rule):
    """The most ways of a walk, None without an end: five kinds are gone through by four ways."""
    pairs = {way[:2] for way in rule.ways()}
    lines = [[kind] for kind in rule.kinds()]
    for many in range(5):
        lines = [line + [base] for line in lines for kind, base in pairs if line[-1] == kind]
        if not lines:
            return many
    return None


def wanted_longest(rule, packers):
    most = longest_walk(rule)
    bounds = [bound for bound in (most, rule.tall if packers == 1 else None) if bound is not None]
    return min(bounds, default=None)


def signs_are_met(signs):
    """[7], word for word."""
    down = "less" in signs or "upto" in signs
    up = "more" in signs or "from" in signs
    return "any" in signs or (down and up) or ("less" not in signs and "more" not in signs)


def is_good_round(rule, walk):
    return walk[-1][1] == walk[0][0] and all(signs_are_met([way[2][at] for way in walk])
                                             for at, measure in enumerate(rule.measures()) if rule.stays(measure))


class RefusedTest(unittest.TestCase):
    def refused(self, kind, value, act, *parts):
        with self.assertRaises(kind) as caught:
            act(*parts)
        self.assertIs(caught.exception.value, value)

    def test_only_rules(self):
        for value in odd_values():
            for act in (longest, chain_walk, count_closed, count_good, chain_paper):
                self.refused(BadArgument, value, act, value, value)
            for act in (chain_deeds, count_walks, shown_bound, shows_endless):
                self.refused(BadArgument, value, act, value, value, value)

    def test_packers(self):
        for rule in (FREELY, LINE):
            for value in NO_PACKERS:
                self.refused(BadNumber, value, longest, rule, value)
                self.refused(BadNumber, value, chain_paper, rule, value)
                for more in (1, None, ("tall", 1), 99):
                    for act in (chain_deeds, shown_bound, shows_endless):
                        self.refused(BadNumber, value, act, rule, value, more)

    def test_lengths(self):
        for rule in (FREELY, LINE):
            for value in NO_NUMBERS + [61]:
                self.refused(BadNumber, value, chain_walk, rule, value)
                self.refused(BadNumber, value, chain_deeds, rule, 1, value)
            for value in NO_NUMBERS + [301]:
                self.refused(BadNumber, value, count_walks, rule, rule.kinds()[0], value)
            for value in NO_NUMBERS + [0, 301]:
                self.refused(BadNumber, value, count_closed, rule, value)
            for value in NO_NUMBERS + [0, 31]:
                self.refused(BadNumber, value, count_good, rule, value)

    def test_kinds(self):
        for value in odd_values() + ["m", "K", "e", ["a"], ("a",)]:
            for length in (1, None, 301):
                self.refused(BadKind, value, count_walks, LINE, value, length)

    def test_the_names_of_the_parameters(self):
        self.assertEqual(longest(packers=1, rule=LINE), 2)
        self.assertEqual(chain_walk(length=2, rule=LINE), [AB, BC])
        self.assertEqual(len(chain_deeds(length=2, packers=1, rule=LINE)), 7)
        self.assertEqual(count_walks(length=1, kind="a", rule=LINE), 2)
        self.assertEqual((count_closed(length=1, rule=FREELY), count_good(length=1, rule=FREELY)), (1, 1))
        self.assertEqual(shown_bound(paper=("tall", 4), packers=1, rule=FREELY.limited(tall=4)), 4)
        self.assertIs(shows_endless(paper=("walk", [ANY]), packers=1, rule=FREELY), True)
        self.assertEqual(chain_paper(packers=2, rule=FREELY), ("walk", [ANY]))


class LongestTest(unittest.TestCase):
    def test_walks_and_tall(self):
        self.assertEqual([longest(LINE, packers) for packers in range(1, 10)], [2] * 9)
        for tall in range(1, 10):
            told = [longest(LINE.limited(deep=0, tall=tall, free=True), packers) for packers in (1, 2, 3, 9)]
            self.assertEqual(told, [min(tall, 2), 2, 2, 2])
            told = [longest(FREELY.limited(deep=0, tall=tall, free=True), packers) for packers in (1, 2, 3, 9)]
            self.assertEqual(told, [tall, None, None, None])
        for deep in range(10):
            for free in (False, True):
                self.assertEqual([longest(rule.limited(deep=deep, free=free), 1) for rule in (LINE, FREELY)], [2, None])

    def test_many_rules(self):
        told = {}
        for seed in range(900):
            rule = (climbing_rule, climbing_rule, sparse_rule)[seed % 3](seed)
            for packers in (1, 2, 5):
                wanted = wanted_longest(rule, packers)
                self.assertEqual(longest(rule, packers), wanted)
                told[wanted] = told.get(wanted, 0) + 1
        self.assertGreater(min(told.get(most, 0) for most in (None, 1, 2, 3, 4)), 30, told)

    def test_all_orders_of_deeds_of_a_few_things(self):
        # Each thing has a kind of its own, so that there are no leans but these.
        words = ["a", "b", "c", "d"]
        for leans in list(all_leans(3))[1:]:
            ways = [(words[one], words[other], ("any",)) for one, other in leans]
            for deep, tall, free in itertools.product([None, 0], [None, 1, 2], [False, True]):
                rule = Rule(words[:3], {"m": True}, ways, deep=deep, tall=tall, free=free)
                for packers in (1, 2):
                    most = longest(rule, packers)
                    lengths = reached(3, leans, (deep, tall, free), packers)[1]
                    if most is not None and longest_walk(rule) is not None:
                        self.assertEqual(max(lengths), most)
                    elif packers == 1 and tall is not None:
                        self.assertLessEqual(max(lengths), most)
        line = ((0, 1), (1, 2), (2, 3))
        for tall, packers, wanted in ((1, 1, 1), (2, 1, 2), (3, 1, 3), (1, 2, 3), (2, 2, 3)):
            rule = Rule(words, {"m": True}, [(words[one], words[other], ("any",)) for one, other in line], tall=tall)
            self.assertEqual(longest(rule, packers), wanted)
            self.assertEqual(max(reached(4, line, (None, tall, False), packers)[1]), wanted)


class WalkTest(unittest.TestCase):
    def test_walks(self):
        self.assertEqual([chain_walk(LINE, length) for length in (0, 2, 3, 60)], [[], [AB, BC], None, None])
        self.assertIn(chain_walk(LINE, 1), [[AB], [BC], [AC]])
        for length in (0, 1, 2, 59, 60):
            self.assertEqual(chain_walk(FREELY, length), [ANY] * length)

    def test_many_rules(self):
        for seed in range(300):
            rule = (climbing_rule, sparse_rule, random_rule)[seed % 3](seed)
            most = longest_walk(rule)
            for length in (0, 1, 2, 3, 4, 5, 6, 30, 60):
                walk = chain_walk(rule, length)
                if most is not None and length > most:
                    self.assertIsNone(walk)
                    continue
                self.assertIs(type(walk), list)
                self.assertEqual(len(walk), length)
                self.assertTrue(all(way in rule for way in walk))
                self.assertTrue(all(way[1] == after[0] for way, after in zip(walk, walk[1:])))

    def test_the_list_belongs_to_the_caller(self):
        for act in (lambda: chain_walk(FREELY, 3), lambda: chain_deeds(FREELY, 2, 3), lambda: chain_paper(FREELY, 2)[1],
                    lambda: chain_paper(LINE, 1)[1]):
            told = act()
            kept = list(told)
            told.clear()
            self.assertEqual(act(), kept)


class DeedsTest(unittest.TestCase):
    def check(self, rule, packers, length):
        deeds = chain_deeds(rule, packers, length)
        most = wanted_longest(rule, packers)
        if most is not None and length > most:
            self.assertIsNone(deeds)
            return
        self.assertIs(type(deeds), list)
        store = Store(rule)
        for deed in deeds:
            store.do(deed)
            self.assertIsNone(store.ring())
        self.assertEqual((len(store), store.pending()), (length + 1, {}))
        self.assertEqual(max(store.depth(word) for word in store.words()), length)
        names = [deed[0] for deed in deeds]
        self.assertEqual([names.count(name) for name in ("put", "ask", "write")], [length + 1, length, length])
        self.assertEqual(len(deeds), 3 * length + 1)
        self.assertTrue(all(1 <= deed[1] <= packers for deed in deeds if deed[0] != "put"))
        self.assertEqual(chain_deeds(rule, packers, length), deeds)

    def test_length_0(self):
        for rule in (FREELY, LINE, FREELY.limited(deep=0, tall=1, free=True)):
            for packers in (1, 2, 9):
                self.check(rule, packers, 0)
                self.assertEqual([deed[0] for deed in chain_deeds(rule, packers, 0)], ["put"])

    def test_the_greatest_length_that_tall_lets_and_one_beyond(self):
        for tall in range(1, 10):
            for deep, free in ((None, False), (0, True)):
                rule = FREELY.limited(deep=deep, tall=tall, free=free)
                for packers in (1, 2, 3):
                    for length in (tall - 1, tall, tall + 1, 60):
                        self.check(rule, packers, length)
                self.assertIsNone(chain_deeds(rule, 1, tall + 1))

    def test_sixty_changes(self):
        for rule in (FREELY, FREELY.limited(deep=0, free=True), one_measure(["less"]), one_measure(["more"], False),
                     Rule(["a", "b"], {"m": True, "n": False}, [("a", "b", ("less", "more")),
                                                                ("b", "a", ("more", "more"))], deep=0, free=True)):
            for packers in (1, 2, 9):
                self.check(rule, packers, 60)

    def test_many_rules(self):
        for seed in range(400):
            rule = (climbing_rule, climbing_rule, random_rule)[seed % 3](seed)
            draw = random.Random(seed)
            rule = rule.limited(deep=draw.choice([None, 0, 1, 9]), tall=rule.tall, free=draw.random() < 0.5)
            for packers, length in itertools.product((1, 2, 3), (1, 2, 3, 4, 5, 7)):
                self.check(rule, packers, length)


class CountTest(unittest.TestCase):
    def test_small_rules(self):
        self.assertEqual([count_walks(LINE, kind, 0) for kind in "abcd"], [1, 1, 1, 1])
        self.assertEqual([[count_walks(LINE, kind, length) for kind in "abcd"] for length in (1, 2, 3, 300)],
                         [[2, 1, 0, 0], [1, 0, 0, 0], [0] * 4, [0] * 4])
        self.assertEqual([count_closed(LINE, 1), count_good(LINE, 1)], [0, 0])
        self.assertEqual([count_closed(FREELY, 300), count_good(FREELY, 30)], [1, 1])

    def test_each_walk_that_begins_elsewhere_on_a_round_is_counted(self):
        rule = Rule(["a", "b"], {"m": True}, [("a", "b", ("less",)), ("b", "a", ("more",))])
        self.assertEqual([count_closed(rule, length) for length in (1, 2, 3, 4)], [0, 2, 0, 2])
        self.assertEqual([count_good(rule, length) for length in (1, 2, 3, 4)], [0, 2, 0, 2])

    def test_one_way_alone(self):
        told = [count_good(one_measure([sign]), 1) for sign in SIGNS]
        self.assertEqual(told, [0, 1, 1, 1, 0, 1])
        self.assertEqual([count_good(one_measure([sign], False), 1) for sign in SIGNS], [1] * 6)

    def test_walks_one_by_one(self):
        for seed in range(150):
            rule = (sparse_rule, random_rule, climbing_rule)[seed % 3](seed)
            for length in (1, 2, 3, 4):
                walks = all_walks(rule, length)
                for kind in rule.kinds():
                    self.assertEqual(count_walks(rule, kind, length), sum(walk[0][0] == kind for walk in walks))
                self.assertEqual(count_closed(rule, length), sum(walk[0][0] == walk[-1][1] for walk in walks))
                self.assertEqual(count_good(rule, length), sum(is_good_round(rule, walk) for walk in walks))

    def test_one_kind_and_all_signs(self):
        rule = one_measure(SIGNS)
        for length in (1, 2, 3, 4, 5):
            wanted = sum(signs_are_met(signs) for signs in itertools.product(SIGNS, repeat=length))
            self.assertEqual((count_good(rule, length), count_closed(rule, length)), (wanted, 6 ** length))
        # With neither "any" nor both senses just what has "less" or "more" is not met.
        wanted = 6 ** 30 - 2 * (3 ** 30 - 2 ** 30)
        self.assertEqual(count_good(rule, 30), wanted)
        self.assertEqual(count_walks(rule, "k", 300), 6 ** 300)
        self.assertEqual(count_closed(rule, 300), 6 ** 300)

    def test_twelve_ways_at_the_bounds(self):
        kinds = ["a", "b", "c", "d", "e"]
        pairs = list(itertools.product(kinds, kinds))
        signs = list(itertools.product(SIGNS, repeat=3))
        rule = Rule(kinds, {"x": True, "y": True, "z": True},
                    [(kind, base, signs[at * 97 % 216]) for at, (kind, base) in enumerate(pairs[:24:2])])
        self.assertEqual(len(rule), 12)
        counts = [count_closed(rule, length) for length in (1, 2, 30, 300)]
        self.assertLessEqual(counts[3], sum(count_walks(rule, kind, 300) for kind in kinds))
        self.assertGreater(count_good(rule, 30), 0)
        self.assertLessEqual(count_good(rule, 30), counts[2])
        moving = Rule(kinds, {"x": False, "y": False, "z": False}, rule.ways())
        self.assertEqual([count_good(moving, length) for length in (1, 2, 30)], counts[:3])
        # The number of closed walks of twice as many ways, by the walks between each two kinds.
        for length in (1, 2, 3, 4, 5, 6):
            walks = all_walks(rule, length)
            between = {pair: sum((walk[0][0], walk[-1][1]) == pair for walk in walks) for pair in pairs}
            self.assertEqual(count_closed(rule, 2 * length),
                             sum(between[one, other] * between[other, one] for one, other in pairs))


def paper_is_right(rule, packers, paper):
    """[12], word for word, of papers of the right form: a bound, "endless", or None."""
    name, told = paper
    if name == "walk":
        right = all(way[1] == after[0] for way, after in zip(told, told[1:] + told[:1]))
        return "endless" if right and not (packers == 1 and rule.tall is not None) else None
    if name == "tall":
        return told if packers == 1 and told == rule.tall else None
    numbers = dict(told)
    right = sorted(kind for kind, _ in told) == rule.kinds() and min(numbers.values()) >= 0
    right = right and all(numbers[way[0]] > numbers[way[1]] for way in rule.ways())
    return max(numbers.values()) if right else None


STEPS = [("a", 2), ("b", 1), ("c", 0), ("d", 0)]


class PaperTest(unittest.TestCase):
    def told(self, rule, packers, paper):
        bound, endless = shown_bound(rule, packers, paper), shows_endless(rule, packers, paper)
        self.assertIsInstance(endless, bool)
        self.assertFalse(endless and bound is not None)
        return "endless" if endless else bound

    def test_walks(self):
        ab, ba, bb = ("a", "b", ("less",)), ("b", "a", ("less",)), ("b", "b", ("less",))
        rule = Rule(["a", "b"], {"m": True}, [ab, ba, bb])
        for ways in ([bb], [ab, ba], [ba, ab], [ab, bb, ba], [ab, ba, ab, ba], [bb] * 300):
            self.assertEqual(self.told(rule, 1, ("walk", ways)), "endless")
            self.assertEqual(self.told(rule.limited(deep=0, tall=1, free=True), 2, ("walk", ways)), "endless")
            self.assertIsNone(self.told(rule.limited(tall=9), 1, ("walk", ways)))
            self.assertIsNone(self.told(rule, 1, ("walk", tuple(ways))))
            self.assertIsNone(self.told(rule, 1, ["walk", ways]))
        for ways in ([], [ab], [ab, bb], [ab, ab], [ba, bb], [("a", "a", ("less",))], [ab, ["b", "a", ("less",)]],
                     [ab, ba, None], [ab, ("b", "a", ["less"])], {ab: 1, ba: 2}, None, "ab", [[]], [Nasty(), Nasty()]):
            for packers in (1, 2):
                self.assertIsNone(self.told(rule, packers, ("walk", ways)))

    def test_steps(self):
        for rows in (STEPS, STEPS[::-1], [("a", 10 ** 50), ("b", 9), ("c", 8), ("d", 77)]):
            for packers in (1, 2, 9):
                for tall in (None, 1, 9):
                    rule = LINE.limited(tall=tall)
                    self.assertEqual(self.told(rule, packers, ("steps", rows)), max(number for _, number in rows))
                    self.assertIsNone(self.told(rule, packers, ("steps", tuple(rows))))
                    self.assertIsNone(self.told(rule, packers, ["steps", rows]))

    def test_steps_that_are_bent_in_one_place(self):
        bent = [[("a", 1), ("b", 1), ("c", 0), ("d", 0)], [("a", 2), ("b", 0), ("c", 0), ("d", 0)],
                [("a", 3), ("b", 2), ("c", 2), ("d", 0)], [("a", 1), ("b", 2), ("c", 0), ("d", 0)],
                STEPS[:3], STEPS[1:], STEPS + [("a", 2)], STEPS + [("e", 0)], STEPS[:3] + [("c", 0)],
                [("a", 1), ("b", 0), ("c", -1), ("d", 0)], STEPS[:3] + [("d", -1)], STEPS[:3] + [("d", False)],
                [("a", 2), ("b", True)] + STEPS[2:], STEPS[:3] + [("d", 0.0)], STEPS[:3] + [("d", None)],
                STEPS[:3] + [["d", 0]], STEPS[:3] + [("d",)], STEPS[:3] + [("d", 0, 0)], STEPS[:3] + ["d0"],
                STEPS[:3] + [(["d"], 0)], STEPS[:3] + [("d", [])], STEPS[:3] + [Nasty()], STEPS[:3] + [(Nasty(), 0)],
                STEPS[:3] + [("d", Angry())], dict(STEPS), None, [], "steps", STEPS[:3] + [("D", 0)]]
        for rows in bent:
            for packers in (1, 2):
                self.assertIsNone(self.told(LINE, packers, ("steps", rows)), rows)
        self.assertIsNone(self.told(FREELY, 1, ("steps", [("k", 5)])))

    def test_tall(self):
        for tall in range(1, 10):
            rule = LINE.limited(tall=tall)
            self.assertEqual(self.told(rule, 1, ("tall", tall)), tall)
            for packers, number in ((2, tall), (9, tall), (1, tall + 1), (1, tall - 1), (1, float(tall)), (1, None),
                                    (1, str(tall)), (1, [tall]), (1, Nasty())):
                self.assertIsNone(self.told(rule, packers, ("tall", number)))
            self.assertIsNone(self.told(rule, 1, ["tall", tall]))
        self.assertIsNone(self.told(LINE.limited(tall=1), 1, ("tall", True)))
        self.assertIsNone(self.told(LINE, 1, ("tall", None)))
        self.assertIsNone(self.told(LINE, 1, ("tall", 9)))

    def test_any_value(self):
        for value in odd_values():
            for paper in (value, (value, value), ("walk", value), ("steps", value), ("steps", [value] * 4),
                          ("tall", value), (value, STEPS), ("odd", STEPS), ("steps", STEPS, value), ("steps",),
                          ("walk", [value]), [("steps", STEPS)]):
                for packers in (1, 2):
                    self.assertIsNone(self.told(LINE, packers, paper))

    def test_papers_under_other_names(self):
        tall, endless = FREELY.limited(tall=4), FREELY
        for name in ("walk", "steps", "tall", "Tall", "odd", ""):
            self.assertEqual(self.told(tall, 1, (name, 4)), 4 if name == "tall" else None)
            self.assertEqual(self.told(endless, 1, (name, [ANY])), "endless" if name == "walk" else None)
            self.assertEqual(self.told(LINE, 1, (name, STEPS)), 2 if name == "steps" else None)

    def test_papers_of_any_author(self):
        told = {}
        for seed in range(4000):
            draw = random.Random(seed)
            rule = (climbing_rule, climbing_rule, random_rule)[seed % 3](seed)
            packers = draw.choice([1, 2])
            numbers = draw.sample(range(5), 5)
            rows = [(kind, number) for kind, number in zip(draw.sample(rule.kinds(), len(rule.kinds())), numbers)]
            ways = draw.choices(rule.ways(), k=draw.randint(1, 3))
            paper = draw.choice([("steps", rows), ("steps", rows), ("walk", ways), ("tall", draw.randint(1, 9))])
            wanted = paper_is_right(rule, packers, paper)
            self.assertEqual(self.told(rule, packers, paper), wanted)
            if wanted == "endless":
                self.assertIsNone(longest(rule, packers))
            elif wanted is not None:
                self.assertLessEqual(longest(rule, packers), wanted)
            told[paper[0], wanted is None] = told.get((paper[0], wanted is None), 0) + 1
        self.assertGreater(min(told.values()), 10, told)
        self.assertEqual(len(told), 6)

    def test_papers_that_are_told(self):
        for seed in range(600):
            rule = (climbing_rule, sparse_rule, random_rule)[seed % 3](seed)
            for packers in (1, 2, 9):
                paper = chain_paper(rule, packers)
                self.assertIs(type(paper), tuple)
                wanted = longest(rule, packers)
                self.assertEqual(self.told(rule, packers, paper), "endless" if wanted is None else wanted)
                self.assertEqual(paper_is_right(rule, packers, paper), "endless" if wanted is None else wanted)
                if paper[0] == "steps":
                    self.assertEqual(paper[1], sorted(paper[1]))
                self.assertEqual(chain_paper(rule, packers), paper)

    def test_the_papers_of_small_rules(self):
        self.assertEqual(chain_paper(LINE, 1), ("steps", STEPS))
        self.assertEqual(chain_paper(LINE.limited(tall=1), 1), ("tall", 1))
        self.assertEqual(chain_paper(LINE.limited(tall=1), 2), ("steps", STEPS))
        self.assertEqual(chain_paper(FREELY.limited(tall=7), 1), ("tall", 7))
        self.assertEqual(chain_paper(FREELY.limited(tall=7), 2), ("walk", [ANY]))


if __name__ == "__main__":
    unittest.main()
