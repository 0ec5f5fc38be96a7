"""[1] (f), [2], [15] and the interface of packedbases/joins.py."""

import itertools
import random
import unittest

from model import chain_of, is_integer, rings_of
from packedbases.errors import BadArgument, BadWord, TooMany
from packedbases.joins import depths_in, joined, joined_ring, joins_safely, keeps_apart, rings_in
from packedbases.rules import Rule
from packedbases.store import Store, played
from packedbases.walks import good_walk, is_good, is_walk
from samples import ANY, LESS, MORE, SIGNS, Angry, Nasty, odd_values, one_measure, random_rule, round_rule, sparse_rule

NO_FORMS = [{"a": "a"}, {"b": None, "a": "a"}, {"A": None}, {"": None}, {"abcdefghi": None}, {"a": ""}, {"a": "B"},
            {"a": "abcdefghi"}, {"a": 1}, {"a": True}, {"a": False}, {1: None}, {None: None}, {("a",): None}, {"a": ["b"]},
            {"a": {}}, {"a": ("b",)}, {"a": ([],)}, {"a": Nasty()}, {"a": Angry()}, {"a": b"b"}, {b"a": None},
            [("a", None)], ["a"], ("a", "b"), {"a", "b"}, "a"]


def random_forms(draw, words, more=""):
    """Forms of words, of which the bases may be among more."""
    chosen = draw.sample(words, len(words))
    return {word: draw.choice([None] + [base for base in [*words, *more] if base != word]) for word in chosen}


def plain_rings(forms):
    """The rings of forms of which a base may be nowhere."""
    return rings_of({**{base: None for base in forms.values() if base is not None}, **forms})


class Case(unittest.TestCase):
    def refused(self, kind, value, act, *parts):
        with self.assertRaises(kind) as caught:
            act(*parts)
        told = next(iter(vars(caught.exception).values()))
        self.assertTrue(told is value or is_integer(value) and told == value, (told, value))


class FormsTest(Case):
    def test_several_rings(self):
        forms = {"z": "x", "x": "y", "y": "x", "c": "b", "b": "d", "d": "c", "a": "c", "e": None, "f": "e", "g": "nix"}
        self.assertEqual(rings_in(forms), [["b", "d", "c"], ["x", "y"]])
        self.assertEqual(list(depths_in(forms).items()), [
            ("a", None), ("b", None), ("c", None), ("d", None), ("e", 0), ("f", 1), ("g", None), ("x", None),
            ("y", None), ("z", None)])

    def test_a_word_that_is_not_there(self):
        self.assertEqual((rings_in({"a": "b"}), depths_in({"a": "b"})), ([], {"a": None}))
        self.assertEqual(depths_in({"b": "a", "c": "b", "d": None}), {"b": None, "c": None, "d": 0})

    def test_no_words(self):
        self.assertEqual((rings_in({}), depths_in({}), joined({}, {}, []), keeps_apart({}, {})), ([], {}, {}, [[]]))

    def test_many_forms(self):
        told = {}
        for seed in range(500):
            draw = random.Random(seed)
            words = draw.sample(["a", "b", "ab", "c", "d", "e", "f", "abc"], draw.randint(1, 8))
            forms = random_forms(draw, words, ["q"] if seed % 3 else [])
            rings = plain_rings(forms)
            self.assertEqual(rings_in(forms), rings)
            told[len(rings)] = told.get(len(rings), 0) + 1
            depths = {}
            for word in sorted(forms):
                chain = chain_of({**forms, "q": forms.get("q")}, word)
                whole = chain[-1] in forms and forms[chain[-1]] is None
                depths[word] = len(chain) - 1 if whole else None
            self.assertEqual(list(depths_in(forms).items()), list(depths.items()))
        self.assertGreater(min(told.get(many, 0) for many in (0, 1, 2)), 10, told)

    def test_a_long_chain(self):
        words = [a + b + c for a in "abc" for b in "abcdefghij" for c in "abcdefghijklmnopqrstuvwxyz"]
        forms = dict(zip(words, words[1:] + [None]))
        self.assertEqual(depths_in(forms)[words[0]], len(words) - 1)
        self.assertEqual(rings_in(dict(zip(words, words[1:] + words[:1]))), [words])

    def test_wrong_forms(self):
        good = {"a": "b", "b": None}
        for value in odd_values() + NO_FORMS:
            if isinstance(value, dict) and not value:
                continue
            for act in (rings_in, depths_in):
                self.refused(BadArgument, value, act, value)
                self.refused(BadArgument, value, lambda: act(forms=value))
            for taken in ([], None, ["q"]):
                self.refused(BadArgument, value, joined, value, value, taken)
                self.refused(BadArgument, value, joined, value, good, taken)
                self.refused(BadArgument, value, joined, good, value, taken)
            self.refused(BadArgument, value, keeps_apart, value, value)
            self.refused(BadArgument, value, keeps_apart, good, value)
            self.refused(BadArgument, value, keeps_apart, value, good)
            self.refused(BadArgument, value, lambda: keeps_apart(other=value, forms=good))


class JoinedTest(Case):
    def test_words_of_both_and_of_one(self):
        forms = {"c": "a", "a": None, "b": "a"}
        other = {"d": "b", "b": None, "c": "b"}
        for taken, wanted in (([], {"a": None, "b": "a", "c": "a", "d": "b"}),
                              (["b"], {"a": None, "b": None, "c": "a", "d": "b"}),
                              (["c", "b"], {"a": None, "b": None, "c": "b", "d": "b"}),
                              (["c", "c"], {"a": None, "b": "a", "c": "b", "d": "b"})):
            told = joined(forms, other, taken)
            self.assertEqual(list(told.items()), list(wanted.items()))
            self.assertEqual(joined(taken=taken, other=other, forms=forms), wanted)

    def test_no_word_in_common_and_all(self):
        self.assertEqual(list(joined({"b": "a"}, {"a": "b"}, []).items()), [("a", "b"), ("b", "a")])
        one, two = {"a": None, "b": "a", "c": "b"}, {"a": "c", "b": None, "c": "b"}
        for taken in itertools.chain.from_iterable(itertools.combinations("abc", many) for many in range(4)):
            self.assertEqual(joined(one, two, list(taken)),
                             {word: (two if word in taken else one)[word] for word in "abc"})

    def test_wrong_words(self):
        forms, other = {"a": None, "b": "a"}, {"b": None, "c": "b"}
        for taken in odd_values() + [("b",), {"b": 1}, "b", {"b"}, ["a"], ["c"], ["b", "a"], ["b", "q"], ["b", None],
                                     ["b", ["b"]], [b"b"], ["B"], [True], [Nasty()], ["b", Angry()]]:
            if not isinstance(taken, list) or taken:
                self.refused(BadWord, taken, joined, forms, other, taken)

    def test_nothing_is_changed_and_dicts_belong_to_the_caller(self):
        forms, other = {"b": "a", "a": None}, {"b": None, "a": "b"}
        told = joined(forms, other, ["a"])
        told["a"] = "q"
        self.assertEqual((list(forms.items()), other), ([("b", "a"), ("a", None)], {"b": None, "a": "b"}))
        self.assertEqual(joined(forms, other, ["a"]), {"a": "b", "b": "a"})
        ring = rings_in(joined(forms, other, ["a"]))
        ring[0].clear()
        depths_in(forms).clear()
        keeps_apart(forms, other)[0].append("q")
        self.assertEqual((rings_in({"a": "b", "b": "a"}), keeps_apart(forms, other)), ([["a", "b"]], [[]]))


class KeepsApartTest(Case):
    def wanted(self, forms, other):
        common = sorted(set(forms) & set(other))
        for many in range(len(common) + 1):
            found = [list(taken) for taken in itertools.combinations(common, many) if not plain_rings(
                {**forms, **{word: other[word] for word in other if word in taken or word not in forms}})]
            if found:
                return found
        return []

    def test_small_forms(self):
        self.assertEqual(keeps_apart({"a": "b", "b": None}, {"a": None, "b": "a"}), [[]])
        self.assertEqual(keeps_apart({"a": "b", "b": "a"}, {"a": None, "b": "a"}), [["a"]])
        self.assertEqual(keeps_apart({"a": "b", "b": "a"}, {"b": None, "a": None}), [["a"], ["b"]])
        self.assertEqual(keeps_apart({"a": "b", "b": "a"}, {"a": "b", "b": "a"}), [])
        self.assertEqual(keeps_apart({"a": "b", "b": "a"}, {"c": None}), [])
        self.assertEqual(keeps_apart({"a": "b", "b": "c"}, {"c": "a"}), [])
        self.assertEqual(keeps_apart({"a": "b", "b": "a", "c": "ab", "ab": "c"},
                                     {"a": None, "b": None, "ab": None, "c": None}),
                         [["a", "ab"], ["a", "c"], ["ab", "b"], ["b", "c"]])

    def test_many_forms(self):
        told = {}
        for seed in range(500):
            draw = random.Random(seed)
            words = ["a", "b", "ab", "c", "d", "e", "f"]
            forms = random_forms(draw, draw.sample(words, draw.randint(2, 7)), words)
            other = random_forms(draw, draw.sample(words, draw.randint(2, 7)), ["a", "q"])
            wanted = self.wanted(forms, other)
            self.assertEqual(keeps_apart(forms, other), wanted)
            key = len(wanted[0]) if wanted else None
            told[key] = told.get(key, 0) + 1
        self.assertGreater(min(told.get(key, 0) for key in (None, 0, 1, 2)), 5, told)

    def test_ten_words_in_common_and_eleven(self):
        words = "abcdefghijk"
        for many in (10, 11):
            forms = dict(zip(words[:many], words[1:many] + words[0]))
            other = dict.fromkeys(words[:many])
            if many == 10:
                self.assertEqual(keeps_apart(forms, other), [[word] for word in words[:10]])
                self.assertEqual(keeps_apart({**forms, "x": "a"}, {**other, "y": "a"}), [[word] for word in words[:10]])
            else:
                self.refused(TooMany, 10, keeps_apart, forms, other)
                self.refused(TooMany, 10, keeps_apart, other, other)
        pairs = dict(zip("abcdefghij", "badcfehgji"))
        told = keeps_apart(pairs, dict.fromkeys(pairs))
        self.assertEqual(told, [list(taken) for taken in itertools.product("ab", "cd", "ef", "gh", "ij")])


def sides_of(rule, other):
    return [(1, way) for way in rule.ways()] + [(2, way) for way in other.ways()]


def fewest_sided(rule, other, most):
    """The length, up to a greatest one, of the shortest good closed walk with both sides, by the ways it has."""
    sided = sides_of(rule, other)
    states = {(way[0], way[1], 1 << at) for at, (_, way) in enumerate(sided)}
    for length in range(2, most + 1):
        states = {(start, way[1], used | 1 << at) for start, end, used in states
                  for at, (_, way) in enumerate(sided) if way[0] == end}
        for start, end, used in states:
            chosen = [sided[at] for at in range(len(sided)) if used >> at & 1]
            if start == end and len({side for side, _ in chosen}) == 2 and ways_are_good(rule, chosen):
                return length
    return None


def ways_are_good(rule, chosen):
    for at, measure in enumerate(rule.measures()):
        signs = [way[2][at] for _, way in chosen]
        down, up = "less" in signs or "upto" in signs, "more" in signs or "from" in signs
        met = "any" in signs or (down and up) or ("less" not in signs and "more" not in signs)
        if rule.stays(measure) and not met:
            return False
    return True


def kin_of(rule, seed):
    """Another rule of the same kinds and measures."""
    draw = random.Random(seed)
    signs = [draw.choice(SIGNS) for _ in range(draw.randint(1, 3))]
    ways = {(draw.choice(rule.kinds()), draw.choice(rule.kinds()), tuple(draw.choice(signs) for _ in rule.measures())): 1
            for _ in range(draw.randint(1, 5))}
    return Rule(rule.kinds(), {measure: rule.stays(measure) for measure in rule.measures()}, list(ways))


class JoinedRingTest(Case):
    def check(self, rule, other):
        told = joined_ring(rule, other)
        self.assertIs(joins_safely(rule, other), told is None)
        if told is None:
            self.assertIsNone(fewest_sided(rule, other, 5))
            return None
        self.assertIs(type(told), list)
        self.assertTrue(all(type(pair) is tuple for pair in told))
        self.assertEqual({side for side, _ in told}, {1, 2})
        self.assertTrue(all(way in (rule if side == 1 else other) for side, way in told))
        ways = [way for _, way in told]
        both = Rule(rule.kinds(), {measure: rule.stays(measure) for measure in rule.measures()}, list(dict.fromkeys(ways)))
        self.assertTrue(is_walk(both, ways) and is_good(both, ways))
        self.assertEqual(fewest_sided(rule, other, len(told)), len(told))
        self.assertEqual(joined_ring(rule=rule, other=other), told)
        return len(told)

    def test_neither_alone_but_both_together(self):
        less, more = one_measure(["less"]), one_measure(["more"])
        self.assertEqual([good_walk(less), good_walk(more)], [None, None])
        self.assertIn(joined_ring(less, more), [[(1, LESS), (2, MORE)], [(2, MORE), (1, LESS)]])
        self.assertIsNone(joined_ring(less, less))
        self.assertIs(joins_safely(rule=less, other=less), True)
        self.assertIs(joins_safely(less, more), False)
        one = Rule(["a", "b"], {"m": True}, [("a", "b", ("any",))])
        two = Rule(["a", "b"], {"m": True}, [("b", "a", ("less",)), ("b", "b", ("less",))])
        self.assertEqual(len(joined_ring(one, two)), 2)

    def test_one_alone_is_not_enough(self):
        rule = Rule(["a", "b"], {"m": True}, [("a", "a", ("any",))])
        self.assertIsNone(joined_ring(rule, Rule(["a", "b"], {"m": True}, [("a", "b", ("any",))])))
        self.assertIsNone(joined_ring(rule, Rule(["a", "b"], {"m": True}, [("b", "b", ("any",))])))
        self.assertEqual(self.check(rule, Rule(["a", "b"], {"m": True}, [("a", "a", ("less",))])), 2)

    def test_a_way_of_both_stands_on_both_sides(self):
        freely = one_measure(["any"])
        self.assertIn(joined_ring(freely, freely), [[(1, ANY), (2, ANY)], [(2, ANY), (1, ANY)]])

    def test_limits_do_not_matter(self):
        less, more = one_measure(["less"]), one_measure(["more"])
        limits = {"deep": 0, "tall": 1, "free": True}
        self.assertEqual(joined_ring(less.limited(**limits), more.limited(**limits)), joined_ring(less, more))
        self.assertEqual(len(joined_ring(less.limited(tall=3), more)), 2)

    def test_measures_that_move(self):
        less = one_measure(["less"], False)
        self.assertEqual(self.check(less, less), 2)

    def test_many_rules(self):
        told = {}
        for seed in range(900):
            rule = (sparse_rule, round_rule, random_rule)[seed % 3](seed, *([5] if seed % 3 != 1 else []))
            if len(rule) <= 8:
                key = self.check(rule, kin_of(rule, seed))
                told[key] = told.get(key, 0) + 1
        self.assertGreater(min(told.get(key, 0) for key in (None, 2, 3, 4, 5)), 3, told)

    def test_a_long_walk_of_both(self):
        kinds = ["a", "b", "c", "d", "e"]
        around = [(kind, kinds[at - 4], ("same", "same", "same")) for at, kind in enumerate(kinds)]
        stays = {"x": True, "y": True, "z": True}
        strict = Rule(kinds, stays, [("a", "b", ("less", "more", "less"))] + around[1:])
        turns = Rule(kinds, stays, [("c", "c", ("more", "same", "less")), ("d", "d", ("less", "less", "less")),
                                    ("e", "e", ("less", "same", "any"))])
        self.assertEqual(self.check(strict, turns), 8)
        self.assertIsNone(joined_ring(strict, strict))

    def test_twelve_ways(self):
        kinds = ["a", "b", "c", "d", "e"]
        stays = {"x": True, "y": True, "z": True}
        ways = [(kind, base, ("less", "upto", "same")) for kind in kinds for base in kinds][:24]
        one, two = Rule(kinds, stays, ways[:12]), Rule(kinds, stays, ways[12:])
        self.assertIsNone(joined_ring(one, two))
        turned = Rule(kinds, stays, [(kind, base, ("more", "from", "same")) for kind, base, _ in ways[12:]])
        self.assertEqual(len(joined_ring(one, turned)), 2)

    def test_only_rules_of_the_same_kinds_and_measures(self):
        rule = one_measure(["less"])
        unlike = [Rule(["j"], {"m": True}, [("j", "j", ("less",))]), one_measure(["less"], False),
                  Rule(["k"], {"n": True}, [LESS]), Rule(["k", "l"], {"m": True}, [LESS])]
        for act in (joined_ring, joins_safely):
            for value in odd_values():
                self.refused(BadArgument, value, act, value, value)
                self.refused(BadArgument, value, act, value, rule)
                self.refused(BadArgument, value, act, rule, value)
            for other in unlike:
                self.refused(BadArgument, other, act, rule, other)
                self.refused(BadArgument, rule, act, other, rule)

    def test_the_list_belongs_to_the_caller(self):
        less, more = one_measure(["less"]), one_measure(["more"])
        joined_ring(less, more).clear()
        self.assertEqual(len(joined_ring(less, more)), 2)


class JoinedStoresTest(unittest.TestCase):
    """[15] held against all stores of two or three things with small numbers, without limits."""

    def stores(self, rule, things):
        """The forms, without a ring, that a store of these things can have: each base is let by, in any order."""
        store = Store(rule)
        for word, kind, number in things:
            store.put(word, kind, {"m": number})
        words = store.words()
        leans = {word: [None] + [base for base in words if store.lets_by(word, base)] for word in words}
        for bases in itertools.product(*leans.values()):
            forms = dict(zip(words, bases))
            if not rings_of(forms):
                deeds = [deed for word in words if forms[word]
                         for deed in (("ask", 1, word, forms[word]), ("write", 1))]
                self.assertEqual(played(rule, store.script() + deeds).forms(), forms)
                yield forms

    def close(self, rule, other, things):
        """Whether some joined forms of two stores of these things are a ring."""
        words = [word for word, _, _ in things]
        others = list(self.stores(other, things))
        return any(rings_in(joined(forms, second, list(taken)))
                   for forms in self.stores(rule, things) for second in others
                   for many in range(len(words) + 1) for taken in itertools.combinations(words, many))

    def test_rules_of_one_measure(self):
        told = {}
        rules = [("a", "b"), ("b", "a"), ("a", "a"), ("b", "b")]
        for seed in range(80):
            draw = random.Random(seed)
            one, two = [Rule(["a", "b"], {"m": True}, list({
                draw.choice(rules) + ((draw.choice(SIGNS),),): 1 for _ in range(draw.randint(1, 2))})) for _ in range(2)]
            walk = joined_ring(one, two)
            closed = False
            for many in (2, 3):
                for kinds in itertools.combinations_with_replacement("ab", many):
                    for numbers in itertools.product(range(many), repeat=many):
                        closed = closed or self.close(one, two, list(zip("xyz", kinds, numbers)))
            if walk is None or len(walk) <= 3:
                self.assertIs(closed, walk is not None, (one.ways(), two.ways()))
            told[walk and len(walk)] = told.get(walk and len(walk), 0) + 1
        self.assertGreater(min(told.get(key, 0) for key in (None, 2)), 20, told)


if __name__ == "__main__":
    unittest.main()
