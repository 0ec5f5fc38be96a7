"""[2], [13], [14] and the interface of packedbases/given.py."""

import itertools
import random
import unittest

from model import all_leans, limits_of, lines_of, reached
from packedbases.errors import BadArgument, BadNumber, BadThing, BadWalk, BadWord
from packedbases.given import Given
from packedbases.rules import Rule
from packedbases.store import Store
from samples import ANY, Angry, Nasty, odd_values, random_rule, sign_is_met

FREELY = Rule(["k"], {"m": True}, [ANY])
LINE = Rule(["a", "b"], {"m": True, "n": False}, [("a", "b", ("less", "same")), ("b", "a", ("less", "more"))])
THINGS = [("y", "b", (2, 0)), ("x", "a", (3, 5)), ("z", "a", (1, 9)), ("w", "b", (2, -1))]
NO_PACKERS = [0, -1, 10, 10 ** 30, True, False, None, 1.0, "1", [1], (1,), {}, {1: 1}, ([],), object(), Nasty()]


def freely(many, **limits):
    """So many things that may all lean on one another."""
    return Given(FREELY.limited(**limits), [("abcdefgh"[at], "k", (0,)) for at in range(many)])


def leaning(leans, many, **limits):
    """Things, each of a kind of its own, that may lean just as the pairs of their numbers tell."""
    words = "abcde"[:many]
    ways = [(words[one], words[other], ("any",)) for one, other in leans]
    return Given(Rule(list(words), {"m": True}, ways, **limits), [(word, word, (0,)) for word in words])


def random_given(seed, most=6):
    draw = random.Random(seed)
    signs = ["less", "more", "upto", "from", "same", "any"][:draw.choice([2, 3, 4, 6])]
    rule = random_rule(seed, kinds=3, measures=2, ways=6, signs=signs).limited(
        deep=draw.choice([None, None, 0, 1, 3]), tall=draw.choice([None, None, 1, 2, 3, 5, 7]), free=draw.random() < 0.3)
    words = draw.sample(["a", "b", "ab", "c", "ba", "d", "e", "f"], draw.randint(1, most))
    return Given(rule, [(word, draw.choice(rule.kinds()), tuple(draw.randint(-1, 1) for _ in rule.measures()))
                        for word in words]), rule


def turning_given(seed):
    """Things that lean on few others, so that rings are often long."""
    draw = random.Random(seed)
    many = draw.choice([3, 4, 5])
    leans = [(at, (at + 1) % many) for at in range(many)] + draw.sample(list(itertools.permutations(range(many), 2)), 1)
    limits = {"deep": draw.choice([None, None, 2, 3]), "tall": draw.choice([None, 2, 3, 5, 7])}
    words = "abcde"[:many]
    rule = Rule(list(words), {"m": True}, list({(words[one], words[other], ("any",)): 1 for one, other in leans}),
                **limits)
    return Given(rule, [(word, word, (0,)) for word in words]), rule


def may_lean(given, rule, word, base):
    """[13], word for word."""
    (kind, numbers), (base_kind, base_numbers) = given[word], given[base]
    return word != base and any(
        way[:2] == (kind, base_kind) and all(not rule.stays(measure) or sign_is_met(sign, number, base_number)
                                             for sign, number, base_number, measure
                                             in zip(way[2], numbers, base_numbers, rule.measures()))
        for way in rule.ways())


def round_is_let(rule, packers, many):
    """[8], word for word."""
    if packers == 1:
        return (not rule.free and (rule.deep is None or many <= rule.deep + 1)
                and (rule.tall is None or 2 * many - 1 <= rule.tall))
    return packers > 2 or rule.tall is None or many <= rule.tall + 1


class Case(unittest.TestCase):
    def refused(self, kind, value, act, *parts):
        with self.assertRaises(kind) as caught:
            act(*parts)
        self.assertIs(type(caught.exception), kind)
        told = caught.exception.value
        self.assertTrue(told is value or type(value) in (int, list) and told == value, (told, value))


class GivenTest(Case):
    def test_things_in_any_order(self):
        for things in itertools.permutations(THINGS):
            given = Given(LINE, list(things))
            self.assertEqual((given.words(), len(given)), (["w", "x", "y", "z"], 4))
            self.assertEqual([given[word] for word in given.words()],
                             [("b", (2, -1)), ("a", (3, 5)), ("b", (2, 0)), ("a", (1, 9))])
            self.assertEqual([given.bases(word) for word in given.words()], [["z"], ["w", "y"], ["z"], []])
            self.assertEqual(given, Given(LINE, THINGS))
        self.assertEqual(Given(rule=LINE, things=THINGS[:1]).words(), ["y"])

    def test_wrong_things(self):
        good = ("q", "a", (1, 2))
        wrong = [("Q", "a", (1, 2)), ("", "a", (1, 2)), ("abcdefghi", "a", (1, 2)), ("q", "c", (1, 2)),
                 ("q", "a", (1,)), ("q", "a", (1, 2, 3)), ("q", "a", [1, 2]), ("q", "a", (True, 2)),
                 ("q", "a", (1, False)), ("q", "a", (1.0, 2)), ("q", "a", (1, None)), ("q", "a", {"m": 1, "n": 2}),
                 ["q", "a", (1, 2)], ("q", "a"), ("q", "a", (1, 2), 3), (["q"], "a", (1, 2)), ("q", ["a"], (1, 2)),
                 ("q", "a", ([], 2)), ("q", {}, (1, 2)), (None, "a", (1, 2)), Nasty(), (Nasty(), "a", (1, 2)),
                 ("q", Nasty(), (1, 2)), ("q", "a", Nasty()), ("q", "a", (Angry(), 2)), ("x", "a", (1, 2))]
        for thing in wrong:
            for things in (THINGS + [thing], [thing] + THINGS):
                self.refused(BadThing, things, Given, LINE, things)
        many = [(word, "a", (1, 2)) for word in "abcdefghi"]
        for things in (many, [], tuple(THINGS), [good, good], {"q": good}, {good: 1}, "q", None, good, iter([good])):
            self.refused(BadThing, things, Given, LINE, things)
        self.assertEqual(len(Given(LINE, many[:8])), 8)
        for value in odd_values():
            self.refused(BadThing, value, Given, LINE, value)
            self.refused(BadThing, value, lambda: Given(things=value, rule=LINE))
            self.refused(BadArgument, value, Given, value, value)
            self.refused(BadArgument, value, Given, value, THINGS)

    def test_any_value_for_a_word(self):
        given = Given(LINE, THINGS)
        for value in odd_values() + ["a", "X", b"x", ["x"], ("x",), 0, -1, slice(0, 1)]:
            self.assertIs(value in given, False)
            self.refused(BadWord, value, lambda: given[value])
            self.refused(BadWord, value, given.bases, value)
            self.refused(BadWord, value, lambda: given.bases(word=value))
        for word in "wxyz":
            self.assertIs(word in given, True)

    def test_equal_givens(self):
        given = Given(LINE, THINGS)
        self.assertIs(given == Given(LINE & LINE, THINGS[::-1]), True)
        for other in (Given(LINE.limited(deep=1), THINGS), Given(LINE, THINGS[1:]),
                      Given(LINE, THINGS[1:] + [("y", "a", (2, 0))]), Given(LINE, THINGS[1:] + [("y", "b", (2, 1))]),
                      Given(LINE, THINGS[1:] + [("v", "b", (2, 0))]), THINGS, LINE, None, {}, "given"):
            self.assertIs(given == other, False)
            self.assertIs(given != other, True)

    def test_it_never_changes_and_lists_belong_to_the_caller(self):
        things = list(THINGS)
        given = Given(LINE, things)
        things.clear()
        for told in (given.words(), given.bases("x"), given.chain(1), given.deeds(["x", "y"], 1)):
            told.clear()
        ring = freely(3)
        ring.ring(1).clear()
        ring.ring_deeds(["a", "b"], 1).clear()
        self.assertEqual((given.words(), given.bases("x"), given), (["w", "x", "y", "z"], ["w", "y"], Given(LINE, THINGS)))
        self.assertEqual((len(given.chain(1)), len(given.deeds(["x", "y"], 1)), len(ring.ring(1))), (3, 7, 2))

    def test_bases_of_many(self):
        told = 0
        for seed in range(500):
            given, rule = random_given(seed, 8)
            for word in given.words():
                wanted = [base for base in given.words() if may_lean(given, rule, word, base)]
                self.assertEqual(given.bases(word), wanted)
                told += len(wanted)
        self.assertGreater(told, 1000)


class ChainTest(Case):
    def check(self, given, rule, packers):
        leans = [(word, base) for word in given.words() for base in given.bases(word)]
        most = max(len(line) for line in lines_of(given.words(), leans)) - 1
        if packers == 1 and rule.tall is not None:
            most = min(most, rule.tall)
        self.assertEqual(given.longest(packers), most)
        chain = given.chain(packers)
        self.assertIs(type(chain), list)
        self.assertEqual((len(chain), len(set(chain))), (most + 1, most + 1))
        self.assertTrue(all(pair in leans for pair in zip(chain, chain[1:])))
        return most

    def test_held_against_all_lines(self):
        told = {}
        for seed in range(400):
            given, rule = random_given(seed)
            for packers in (1, 2, 9):
                most = self.check(given, rule, packers)
                told[most] = told.get(most, 0) + 1
        self.assertGreater(min(told.get(most, 0) for most in range(6)), 5, told)

    def test_one_up_to_eight_things(self):
        for many in range(1, 9):
            for tall in (None, 1, 3, 9):
                given = freely(many, tall=tall, deep=0, free=True)
                self.assertEqual(given.longest(1), min(many - 1, tall or 9))
                self.assertEqual([given.longest(packers=packers) for packers in (2, 3, 9)], [many - 1] * 3)
                self.assertEqual(len(given.chain(packers=1)), given.longest(1) + 1)

    def test_all_orders_of_deeds(self):
        for leans in list(all_leans(3))[1:]:
            for tall, packers in ((None, 1), (1, 1), (2, 1), (1, 2)):
                given = leaning(leans, 3, tall=tall)
                self.assertEqual(given.longest(packers), max(reached(3, leans, (None, tall, False), packers)[1]))
        for leans in (((0, 1), (1, 2), (2, 3)), ((0, 1), (1, 2), (2, 0), (2, 3)), ((3, 2), (2, 3), (1, 3), (3, 0))):
            for tall, packers in ((None, 1), (1, 1), (2, 1), (1, 2)):
                given = leaning(leans, 4, tall=tall)
                self.assertEqual(given.longest(packers), max(reached(4, leans, (None, tall, False), packers)[1]))

    def test_packers(self):
        for given in (freely(3), freely(1), Given(LINE, THINGS)):
            for value in NO_PACKERS:
                for act in (given.longest, given.chain, given.ring):
                    self.refused(BadNumber, value, act, value)
                    self.refused(BadNumber, value, lambda: act(packers=value))


class RingTest(Case):
    def rounds(self, given):
        """All lines of two or more words that are rounds."""
        leans = [(word, base) for word in given.words() for base in given.bases(word)]
        return [line for line in lines_of(given.words(), leans) if (line[-1], line[0]) in leans and len(line) > 1]

    def test_held_against_all_rounds(self):
        told = {}
        for seed in range(500):
            given, rule = random_given(seed) if seed % 2 else turning_given(seed)
            rounds = self.rounds(given)
            for packers in (1, 2, 3, 9):
                fits = [len(line) for line in rounds if round_is_let(rule, packers, len(line))]
                ring = given.ring(packers)
                if fits:
                    self.assertIs(type(ring), list)
                    self.assertIn(ring, rounds)
                self.assertEqual(ring and len(ring), min(fits, default=None))
                told[ring and len(ring)] = told.get(ring and len(ring), 0) + 1
        self.assertGreater(min(told.get(many, 0) for many in (None, 2, 3, 4)), 5, told)

    def test_rounds_of_all_lengths(self):
        for many in range(2, 6):
            leans = [(at, (at + 1) % many) for at in range(many)]
            for tall in (None, 1, many - 2, many - 1, 2 * many - 2, 2 * many - 1):
                if tall is None or 1 <= tall <= 9:
                    given = leaning(leans, many, tall=tall)
                    told = [given.ring(packers) for packers in (1, 2, 3)]
                    self.assertEqual([ring is not None for ring in told],
                                     [tall is None or tall >= 2 * many - 1, tall is None or tall >= many - 1, True])
                    self.assertEqual(told[2], list("abcde"[:many]))

    def test_all_orders_of_deeds(self):
        for leans in list(all_leans(3))[1:]:
            for deep, tall, free, packers in ((None, None, False, 1), (1, None, False, 1), (None, 4, False, 1),
                                              (0, 1, True, 2), (None, 1, False, 2), (0, None, True, 2)):
                given = leaning(leans, 3, deep=deep, tall=tall, free=free)
                sizes = {len(ring) for ring in reached(3, leans, (deep, tall, free), packers)[0]}
                ring = given.ring(packers)
                self.assertEqual(ring and len(ring), min(sizes, default=None))

    def test_eight_things(self):
        for packers in (1, 2, 9):
            self.assertEqual(len(freely(8).ring(packers)), 2)
        self.assertIsNone(freely(8, tall=2).ring(1))
        self.assertIsNone(freely(1).ring(9))
        rule = Rule(["a", "b", "c", "d", "e"], {"m": True}, [
            ("a", "b", ("less",)), ("b", "b", ("less",)), ("b", "c", ("less",)), ("c", "c", ("less",)),
            ("c", "d", ("less",)), ("d", "e", ("less",)), ("e", "a", ("more",))])
        things = [(word, kind, (8 - at,)) for at, (word, kind) in enumerate(zip("hgfedcba", "abbbccde"))]
        given = Given(rule, things)
        self.assertEqual(given.longest(2), 7)
        self.assertEqual(len(given.ring(2)), 5)
        self.assertIn(given.ring(2), self.rounds(given))


class DeedsTest(Case):
    def play(self, given, rule, deeds, packers, words):
        """The store behind deeds, which are looked at for what they may be."""
        self.assertIs(type(deeds), list)
        store = Store(rule)
        for deed in deeds:
            self.assertIsNone(store.ring())
            store.do(deed)
        puts = [deed for deed in deeds if deed[0] == "put"]
        self.assertEqual(sorted(puts), [("put", word) + given[word] for word in given.words()])
        asks = [deed[2:] for deed in deeds if deed[0] == "ask"]
        self.assertEqual(len(asks), len(set(asks)))
        self.assertEqual(len(asks), [deed[0] for deed in deeds].count("write"))
        self.assertLessEqual({deed[0] for deed in deeds}, {"put", "mark", "ask", "write"})
        self.assertTrue(all(1 <= deed[1] <= packers for deed in deeds if deed[0] in ("ask", "write")))
        self.assertEqual((store.pending(), store.words()), ({}, given.words()))
        for word in given.words():
            kind, numbers = given[word]
            self.assertEqual(store.kind_of(word), kind)
            for measure, number in zip(rule.measures(), numbers):
                if rule.stays(measure):
                    self.assertEqual(store.marks_of(word)[measure], number)
        return store

    def check(self, given, rule, words, packers):
        deeds = given.deeds(words, packers)
        store = self.play(given, rule, deeds, packers, words)
        self.assertIsNone(store.ring())
        self.assertEqual(store.chain(words[0]), words)
        self.assertTrue(all(store.base_of(word) is None for word in given.words() if word not in words[:-1]))
        self.assertEqual(given.deeds(words, packers), deeds)

    def check_ring(self, given, rule, words, packers):
        store = self.play(given, rule, given.ring_deeds(words, packers), packers, words)
        self.assertEqual(sorted(store.ring()), sorted(words))
        self.assertEqual(store.chain(words[0]), words)
        self.assertTrue(all(store.base_of(word) is None for word in given.words() if word not in words))

    def test_all_lines_and_rounds(self):
        told = [0, 0, 0, 0]
        for seed in range(250):
            given, rule = random_given(seed, 5)
            leans = [(word, base) for word in given.words() for base in given.bases(word)]
            lines = list(lines_of(given.words(), leans))
            for words in random.Random(seed).sample(lines, min(len(lines), 25)):
                length = len(words) - 1
                for packers in (1, 2, 3):
                    if packers == 1 and rule.tall is not None and length > rule.tall:
                        self.refused(BadNumber, length, given.deeds, words, packers)
                        told[0] += 1
                    else:
                        self.check(given, rule, words, packers)
                        told[1] += 1
                    if length < 1 or (words[-1], words[0]) not in leans:
                        self.refused(BadWalk, words, given.ring_deeds, words, packers)
                    elif round_is_let(rule, packers, len(words)):
                        self.check_ring(given, rule, words, packers)
                        told[2] += 1
                    else:
                        self.refused(BadNumber, packers, given.ring_deeds, words, packers)
                        told[3] += 1
        self.assertGreater(min(told), 100, told)

    def test_eight_things(self):
        for tall in (None, 1, 7):
            given, rule = freely(8, deep=0, tall=tall, free=True), FREELY.limited(deep=0, tall=tall, free=True)
            for words in ("abcdefgh", "hgfedcba", "dbhcagef", "g", "hb"):
                for packers in (1, 2, 9):
                    if packers > 1 or tall != 1 or len(words) < 3:
                        self.check(given, rule, list(words), packers)
                    if len(words) > 1 and round_is_let(rule, packers, len(words)):
                        self.check_ring(given, rule, list(words), packers)
        self.refused(BadNumber, 7, freely(8, tall=6).deeds, list("abcdefgh"), 1)
        self.check(freely(8, tall=7), FREELY.limited(tall=7), list("abcdefgh"), 1)

    def test_rings_at_the_limits(self):
        for many in range(2, 9):
            words = list("abcdefgh"[:many])
            for deep, tall in itertools.product([None] + list(range(10)), [None] + list(range(1, 10))):
                given, rule = freely(8, deep=deep, tall=tall), FREELY.limited(deep=deep, tall=tall)
                for packers in (1, 2, 3):
                    if round_is_let(rule, packers, many):
                        self.assertEqual(given.ring_deeds(words=words, packers=packers)[-1], ("write", 1))
                    else:
                        self.refused(BadNumber, packers, given.ring_deeds, words, packers)
            for packers in (1, 2, 3):
                for limits in ({"deep": many - 1}, {"tall": 2 * many - 1}, {"tall": many - 1, "deep": 0}):
                    rule = FREELY
                    if all(value <= 9 for value in limits.values()):
                        rule = FREELY.limited(**limits)
                    if round_is_let(rule, packers, many):
                        self.check_ring(freely(8, **dict(zip(("deep", "tall", "free"), limits_of(rule)))), rule, words,
                                        packers)

    def test_numbers_that_move(self):
        rule = Rule(["k"], {"a": False, "b": False, "c": True},
                    [("k", "k", (sign, other, "upto")) for sign in ("less", "more") for other in ("same", "from")])
        things = [(word, "k", (draw, draw * draw - 3, 0)) for draw, word in enumerate("abcde")]
        for limits in ({}, {"deep": 0, "tall": 1, "free": True}):
            limited = rule.limited(**limits)
            given = Given(limited, things)
            for words in (list("abcde"), list("ecadb"), list("ba")):
                for packers in (1, 2, 3):
                    if packers > 1 or not limits or len(words) == 2:
                        self.check(given, limited, words, packers)
                    if round_is_let(limited, packers, len(words)):
                        self.check_ring(given, limited, words, packers)

    def test_wrong_lines(self):
        given = Given(LINE, THINGS)
        self.assertEqual(given.longest(1), 2)
        wrong = odd_values() + [("x", "y"), ["x", "x"], ["y", "x"], ["x", "z"], ["x", "y", "x"], ["q"], ["x", "q"],
                                "x", ["x", ["y"]], ["x", None], [["x"]], {"x": 1}, ["x", "y", "z", "x"], ["X"],
                                [Nasty()], ["x", Nasty()], iter(["x"])]
        for value in wrong:
            for packers in (1, None, 0, 10):
                self.refused(BadWalk, value, given.deeds, value, packers)
                self.refused(BadWalk, value, given.ring_deeds, value, packers)
        for words in ("aba", "abca", "aa", "abb", "ababab"):
            self.refused(BadWalk, list(words), freely(3).deeds, list(words), 2)
            self.refused(BadWalk, list(words), freely(3).ring_deeds, list(words), 2)
        for words in (["x"], ["x", "y"], ["x", "y", "z"]):
            self.refused(BadWalk, words, given.ring_deeds, words, None)
            for value in NO_PACKERS:
                self.refused(BadNumber, value, given.deeds, words, value)
        for value in NO_PACKERS:
            self.refused(BadNumber, value, freely(3).ring_deeds, ["a", "c"], value)
        self.refused(BadNumber, 1, freely(3, free=True).ring_deeds, ["a", "c"], 1)
        low = Given(LINE.limited(tall=1), THINGS)
        self.refused(BadNumber, 2, low.deeds, ["x", "y", "z"], 1)
        self.assertEqual(len(low.deeds(packers=2, words=["x", "y", "z"])), 9)


if __name__ == "__main__":
    unittest.main()
