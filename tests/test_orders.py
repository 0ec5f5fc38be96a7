"""[1], [2], [26] and the interface of packedbases/orders.py."""

import inspect
import itertools
import random
import unittest

from model import chain_of, limits_let, limits_of, rings_of
from packedbases.errors import BadArgument, BadNumber, TooMany
from packedbases.given import Given
from packedbases.orders import Orders, replayed
from packedbases.rules import Rule
from packedbases.store import played
from samples import ANY, Angry, Nasty, odd_values
from test_given import freely, leaning, may_lean, random_given, turning_given

FREELY = Rule(["k"], {"m": True}, [ANY])
NO_PACKERS = [0, -1, 4, 9, 10 ** 30, True, False, None, 1.0, "1", [1], (1,), {}, {1: 1}, ([],), object(), Nasty(), Angry()]
NO_LENGTHS = [-1, -10 ** 30, True, False, None, 1.0, "1", [1], (1,), {}, ([],), Nasty(), Angry()]
STEPS = {"ask": 4, "write": 2, "stop": 2, "whole": 2}


def model_deeds(given, rule, packers, forms, asked):
    """All pairs of a deed and what is behind it, (forms, asked), by the sentences of [26]."""
    if rings_of(forms):
        return
    for packer in range(1, packers + 1):
        if asked[packer] is None:
            for word, base in itertools.permutations(given.words(), 2):
                if may_lean(given, rule, word, base) and limits_let(limits_of(rule), forms, word, base):
                    yield ("ask", packer, word, base), (forms, {**asked, packer: (word, base)})
        else:
            word, base = asked[packer]
            yield ("write", packer), ({**forms, word: base}, {**asked, packer: None})
            yield ("stop", packer), (forms, {**asked, packer: None})
    for word in forms:
        if forms[word] is not None:
            yield ("whole", word), ({**forms, word: None}, asked)


class Search:
    """All states, by how many deeds lead to them, until there are more than so many."""

    def __init__(self, given, rule, packers, most=20000):
        self.start = ({word: None for word in given.words()}, {packer: None for packer in range(1, packers + 1)})
        self.many = {str(self.start): 0}
        self.states = [self.start]
        for state in self.states:
            for _, behind in model_deeds(given, rule, packers, *state):
                if str(behind) not in self.many:
                    self.many[str(behind)] = self.many[str(state)] + 1
                    self.states.append(behind)
            if len(self.states) > most:
                break

    def lengths(self):
        """For each state the number of its deeds and the length of its longest chain, None for a ring."""
        for forms, asked in self.states:
            ringed = rings_of(forms)
            yield self.many[str((forms, asked))], None if ringed else max(
                len(chain_of(forms, word)) - 1 for word in forms)


class Case(unittest.TestCase):
    def refused(self, kind, value, act, *parts, **named):
        with self.assertRaises(kind) as caught:
            act(*parts, **named)
        self.assertIs(type(caught.exception), kind)
        self.assertIs(caught.exception.value, value)

    def too_many(self, act, *parts):
        with self.assertRaises(TooMany) as caught:
            act(*parts)
        self.assertIs(type(caught.exception.number), int)
        self.assertGreater(caught.exception.number, 20000)


class OrdersTest(Case):
    def check(self, given, rule, packers):
        """Held against a search of all states; tells the greatest length and the fewest deeds that close a ring."""
        orders = Orders(given, packers)
        search = Search(given, rule, packers)
        self.assertEqual(orders.amount, len(search.states))
        told = list(search.lengths())
        counts = {}
        for _, length in told:
            counts[length] = counts.get(length, 0) + 1
        self.assertEqual(orders.counts(), counts)
        self.assertEqual(sum(orders.counts().values()), orders.amount)
        fewest = min((many for many, length in told if length is None), default=None)
        self.fewest(given, packers, orders.ring_deeds(), fewest, lambda forms: bool(rings_of(forms)))
        longest = max(length for _, length in told if length is not None)
        for length in range(longest + 3):
            fewest_here = min((many for many, here in told if here is not None and here >= length), default=None)
            self.assertIs(fewest_here is None, length > longest)
            self.fewest(given, packers, orders.chain_deeds(length), fewest_here, lambda forms: not rings_of(forms) and max(
                len(chain_of(forms, word)) - 1 for word in forms) >= length)
        lost = {str(forms): forms for forms, _ in search.states if rings_of(forms)}
        self.assertEqual([str(forms) for forms in orders.lost_forms()], sorted(lost))
        self.assertEqual(list(orders.lost_forms()), [lost[text] for text in sorted(lost)])
        # What is told of all stores is just what is so here.
        self.assertEqual(given.ring(packers) is None, fewest is None)
        self.assertEqual(given.longest(packers), longest)
        return longest, fewest

    def fewest(self, given, packers, deeds, many, holds):
        if many is None:
            self.assertIsNone(deeds)
            return
        self.assertEqual((type(deeds), len(deeds)), (list, many))
        forms = replayed(given, packers, deeds)
        self.assertTrue(holds(forms), (deeds, forms))
        self.assertEqual(list(forms), given.words())

    def test_one_two_and_three_packers_held_against_a_search(self):
        told = {}
        for seed in range(120):
            for packers in (1, 2, 3):
                given, rule = random_given(seed, most={1: 4, 2: 3, 3: 3}[packers])
                key = (packers,) + self.check(given, rule, packers)
                told[key[0], key[2] is None] = told.get((key[0], key[2] is None), 0) + 1
        self.assertEqual(set(told), set(itertools.product((1, 2, 3), (True, False))), told)
        self.assertGreater(min(told.values()), 15, told)

    def test_all_ways_of_leaning_of_three_things(self):
        pairs = list(itertools.permutations(range(3), 2))
        for at, chosen in enumerate(itertools.product([False, True], repeat=6)):
            leans = [pair for pair, held in zip(pairs, chosen) if held]
            if leans:
                limits = [{}, {"deep": 0}, {"tall": 2}, {"free": True}, {"deep": 1, "tall": 3}][at % 5]
                given = leaning(leans, 3, **limits)
                rule = Rule(list("abc"), {"m": True}, [("abc"[one], "abc"[other], ("any",)) for one, other in leans], **limits)
                for packers in (1, 2):
                    self.check(given, rule, packers)

    def test_longer_rings(self):
        found = set()
        for seed in range(60):
            given, rule = turning_given(seed)
            packers = 1 if len(given) > 4 else 2
            found.add((packers, self.check(given, rule, packers)[1]))
        self.assertGreater(len(found), 5, found)

    def test_what_is_told(self):
        orders = Orders(given=freely(2), packers=1)
        self.assertEqual(orders.amount, 10)
        self.assertEqual(orders.counts(), {0: 3, 1: 6, None: 1})
        self.assertEqual(orders.chain_deeds(length=0), [])
        self.assertEqual(orders.chain_deeds(1)[0][:2], ("ask", 1))
        self.assertEqual([deed[0] for deed in orders.ring_deeds()], ["ask", "write", "ask", "write"])
        self.assertEqual(list(orders.lost_forms()), [{"a": "b", "b": "a"}])
        self.assertIsNone(orders.chain_deeds(2))
        self.assertIsNone(orders.chain_deeds(10 ** 30))
        alone = Orders(freely(1), 3)
        self.assertEqual((alone.amount, alone.counts(), alone.ring_deeds(), list(alone.lost_forms())), (1, {0: 1}, None, []))

    def test_packers_are_apart(self):
        one = leaning([(0, 1)], 2)
        self.assertEqual([Orders(one, packers).amount for packers in (1, 2, 3)], [4, 8, 16])
        two = Orders(freely(2, deep=0), 2)
        self.assertEqual(len(two.ring_deeds()), 4)
        self.assertEqual({deed[1] for deed in two.ring_deeds()}, {1, 2})
        self.assertIsNone(Orders(freely(2, deep=0), 1).ring_deeds())
        self.assertEqual((None in two.counts(), None in Orders(freely(2, deep=0), 1).counts()), (True, False))

    def test_deeds_that_a_store_plays(self):
        for seed in range(80):
            given, rule = random_given(seed, most=4)
            if not all(rule.stays(measure) for measure in rule.measures()):
                continue
            orders = Orders(given, 2)
            puts = [("put", word, *given[word]) for word in given.words()]
            for deeds in (orders.ring_deeds(), orders.chain_deeds(1), orders.chain_deeds(2)):
                if deeds is not None:
                    self.assertEqual(played(rule, puts + deeds).forms(), replayed(given, 2, deeds))

    def test_numbers_that_move_may_be_any(self):
        rule = Rule(["k"], {"m": False, "n": True}, [("k", "k", ("less", "same"))])
        given = Given(rule, [("a", "k", (1, 5)), ("b", "k", (1, 5)), ("c", "k", (0, 6))])
        orders = Orders(given, 1)
        self.assertEqual(orders.counts(), {0: 3, 1: 6, None: 1})
        self.assertEqual(list(orders.lost_forms()), [{"a": "b", "b": "a", "c": None}])

    def test_more_than_20000_states(self):
        for given, packers in ((freely(8), 1), (freely(8), 3), (freely(5), 1), (freely(4), 2), (freely(4), 3),
                               (freely(8, deep=0, tall=1, free=True), 2)):
            self.too_many(Orders, given, packers)
            self.too_many(replayed, given, packers, [])
            self.too_many(replayed, given, packers, None)
        # Each form of 1000, with nothing asked or one of 19 pairs.
        rule = Rule(["a", "b", "c"], {"m": True}, [("a", "b", ("any",)), ("a", "c", ("any",)), ("b", "c", ("any",))])
        just = Given(rule, [(word, kind, (0,)) for word, kind in zip("abcdefgh", "abbbcccc")])
        orders = Orders(just, 1)
        self.assertEqual((orders.amount, sum(orders.counts().values())), (20000, 20000))
        self.assertEqual(replayed(just, 1, [("ask", 1, "b", "h"), ("write", 1)])["b"], "h")
        self.too_many(Orders, just, 2)
        near = freely(4, tall=2)
        self.assertEqual(Orders(near, 2).amount, 19147)
        self.too_many(Orders, freely(4, tall=3, free=True), 2)

    def test_the_bound_of_20000_states(self):
        # A star: all lean on the first thing alone, one packer, so there are 2^n forms, each with n + 1 askings.
        for many in range(1, 8):
            given = star(many)
            self.assertEqual(Orders(given, 1).amount, 2 ** many * (many + 1))
        self.assertEqual(Orders(star(6), 2).amount, 64 * 49)
        self.assertEqual(Orders(star(5), 3).amount, 32 * 216)
        self.assertEqual(Orders(star(7), 2).amount, 128 * 64)
        self.too_many(Orders, star(6), 3)
        self.too_many(Orders, star(7), 3)

    def test_eight_given_things_and_three_packers(self):
        line = Rule(list("abcde"), {"m": True, "n": True, "o": False}, [("a", "b", ("less", "any", "less"))])
        things = [(word, kind, (number, 0, 0)) for word, kind, number in zip(
            ["a", "b", "c", "d", "e", "f", "g", "h"], "abcdeeee", range(8, 0, -1))]
        given = Given(line, things)
        orders = Orders(given, 3)
        self.assertEqual((orders.amount, orders.counts(), orders.ring_deeds()), (2 * 8, {0: 8, 1: 8}, None))
        self.assertEqual(orders.chain_deeds(1), [("ask", 1, "a", "b"), ("write", 1)])
        self.assertEqual(replayed(given, 3, [("ask", 3, "a", "b"), ("write", 3)]),
                         {"a": "b", **{word: None for word in "bcdefgh"}})

    def test_answers_belong_to_the_caller(self):
        orders = Orders(freely(3), 1)
        counts, forms = orders.counts(), list(orders.lost_forms())
        orders.counts().clear()
        orders.ring_deeds().clear()
        orders.chain_deeds(2).clear()
        for told in orders.lost_forms():
            told.clear()
        self.assertEqual((orders.counts(), list(orders.lost_forms())), (counts, forms))
        self.assertEqual((len(orders.ring_deeds()), len(orders.chain_deeds(2))), (4, 4))
        half = orders.lost_forms()
        self.assertTrue(inspect.isgenerator(half))
        self.assertEqual(next(half), forms[0])
        self.assertEqual(list(orders.lost_forms()), forms)
        self.assertEqual(list(half), forms[1:])
        self.assertEqual(orders.ring_deeds(), Orders(freely(3), 1).ring_deeds())
        with self.assertRaises(AttributeError):
            orders.amount = 5

    def test_wrong_values(self):
        for value in odd_values() + [FREELY, [("a", "k", (0,))]]:
            self.refused(BadArgument, value, Orders, value, value)
            self.refused(BadArgument, value, Orders, value, 1)
            self.refused(BadArgument, value, replayed, value, value, value)
            self.refused(BadArgument, value, replayed, given=value, packers=1, deeds=[])
        for packers in NO_PACKERS:
            self.refused(BadNumber, packers, Orders, freely(2), packers)
            self.refused(BadNumber, packers, Orders, packers=packers, given=freely(8))
            self.refused(BadNumber, packers, replayed, freely(2), packers, packers)
        orders = Orders(freely(3), 1)
        for length in NO_LENGTHS:
            self.refused(BadNumber, length, orders.chain_deeds, length)
            self.refused(BadNumber, length, orders.chain_deeds, length=length)


def star(many):
    """So many things that may all lean on one more alone."""
    words = list("abcdefgh"[:many + 1])
    rule = Rule(["k", "z"], {"m": True}, [("k", "z", ("any",))])
    return Given(rule, [(word, "z" if word == words[-1] else "k", (0,)) for word in words])


class ReplayedTest(Case):
    def test_deeds_drawn_held_against_the_sentences(self):
        played_on = refused = 0
        for seed in range(60):
            draw = random.Random(seed)
            packers = draw.randint(1, 3)
            given, rule = random_given(seed, most=3)
            state = Search(given, rule, packers, 0).start
            deeds = []
            for _ in range(12):
                behind = dict(model_deeds(given, rule, packers, *state))
                words = given.words()
                drawn = draw.choice([("ask", draw.randint(0, 4), draw.choice(words), draw.choice(words)),
                                     ("write", draw.randint(0, 4)), ("stop", draw.randint(0, 4)), ("whole", draw.choice(words))])
                wanted = behind[drawn][0] if drawn in behind else None
                self.assertEqual(replayed(given, packers, deeds + [drawn]), wanted)
                refused += wanted is None
                if behind:
                    deed = draw.choice(sorted(behind, key=str))
                    state = behind[deed]
                    deeds.append(deed)
                    played_on += 1
                    self.assertEqual(str(replayed(deeds=deeds, packers=packers, given=given)), str(state[0]))
        self.assertGreater(min(played_on, refused), 100)

    def test_deeds_of_any_values(self):
        given = freely(3)
        ahead = [("ask", 1, "a", "b")]
        wrong = [("ask", True, "a", "b"), ("write", True), ("stop", True), ("stop", False), ("ask", 1.0, "a", "c"), ("write", 1.0),
                 ["write", 1], ("write",), ("write", 1, 1), ("write", "1"), ("write", None), ("write", [1]), ("write", ([],)),
                 ("write", {}), ("stop", [1]), ("stop",), ("whole",), ("whole", ["a"]), ("whole", "z"), ("whole", "a"), ("whole", 1),
                 ("ask", 2, "a", "a"), ("ask", 2, "a", "z"), ("ask", 2, "z", "a"), ("ask", 2, "a"), ("ask", 2, "a", "b", "c"),
                 ("ask", 2, ["a"], "b"), ("ask", 2, "a", None), ("ask", 3, "a", "b"), ("ask", 0, "a", "b"), ("ask", -1, "a", "b"),
                 ("ask", 1, "a", "c"), ("write", 2), ("stop", 2), ("write", 3), ("put", "d", "k", (0,)), ("mark", "a", "m", 1),
                 ("Write", 1), ("", 1), (None, 1), (["write"], 1), ({}, 1), "write", (), (Nasty(), 1), ("write", Nasty()),
                 ("write", Angry()), Nasty(), Angry(), None, 1]
        for deed in wrong + odd_values():
            self.assertIsNone(replayed(given, 2, ahead + [deed]), deed)
            self.assertIsNone(replayed(given, 2, ahead + [deed, ("write", 1)]))
        self.assertEqual(replayed(given, 2, ahead + [("write", 1)]), {"a": "b", "b": None, "c": None})
        self.assertEqual(replayed(given, 2, ahead + [("stop", 1), ("ask", 1, "a", "c")]), {"a": None, "b": None, "c": None})

    def test_no_deeds_at_a_ring(self):
        closed = [("ask", 2, "c", "a"), ("ask", 1, "a", "b"), ("write", 1), ("ask", 1, "b", "a"), ("write", 1)]
        ring = {"a": "b", "b": "a", "c": None}
        self.assertEqual(replayed(freely(3), 2, closed), ring)
        for deed in (("write", 2), ("stop", 2), ("whole", "a"), ("whole", "b"), ("ask", 1, "c", "b")):
            self.assertIsNone(replayed(freely(3), 2, closed + [deed]))

    def test_limits_and_leaning(self):
        self.assertIsNone(replayed(freely(3, deep=0), 1, [("ask", 1, "a", "b"), ("write", 1), ("ask", 1, "c", "a")]))
        self.assertIsNone(replayed(freely(3, free=True), 1, [("ask", 1, "a", "b"), ("write", 1), ("ask", 1, "b", "a")]))
        self.assertIsNone(replayed(freely(3, tall=1), 1, [("ask", 1, "a", "b"), ("write", 1), ("ask", 1, "b", "c")]))
        self.assertIsNone(replayed(leaning([(0, 1)], 2), 1, [("ask", 1, "b", "a")]))
        self.assertEqual(replayed(freely(3, tall=1), 2, [("ask", 1, "a", "b"), ("ask", 2, "b", "c"), ("write", 1),
                                                          ("write", 2)]), {"a": "b", "b": "c", "c": None})
        # The later writing stands.
        self.assertEqual(replayed(freely(3), 2, [("ask", 1, "a", "b"), ("ask", 2, "a", "c"), ("write", 2), ("write", 1)])["a"],
                         "b")

    def test_no_lists(self):
        given = freely(2)
        deeds = [("ask", 1, "a", "b")]
        for value in odd_values() + [tuple(deeds), {deeds[0]: 1}, iter(deeds)]:
            if not isinstance(value, list):
                self.refused(BadArgument, value, replayed, given, 1, value)
        self.assertEqual(replayed(given, 1, []), {"a": None, "b": None})
        told = replayed(given, 1, deeds)
        told.clear()
        self.assertEqual(replayed(given, 1, deeds), {"a": None, "b": None})


if __name__ == "__main__":
    unittest.main()
