"""[2], [3], [4] and the interface of packedbases/rules.py."""

import collections
import itertools
import unittest

from packedbases.errors import BadArgument, BadKind, BadMeasure, BadRule
from packedbases.rules import Rule, is_word
from samples import ANY, LESS, MORE, SIGNS, Angry, Nasty, odd_values, random_rule, sign_is_met

KINDS = ["ox", "kit"]
MEASURES = {"size": False, "age": True}
WAYS = [("ox", "kit", ("same", "any")), ("kit", "ox", ("less", "from")), ("kit", "kit", ("more", "upto"))]
GOOD = {"kinds": KINDS, "measures": MEASURES, "ways": WAYS, "deep": 0, "tall": 9, "free": True}
PARTS = ["kinds", "measures", "ways", "deep", "tall", "free"]

WRONG = {
    "kinds": [[], ("ox", "kit"), {"ox": 1, "kit": 2}, {"ox", "kit"}, "kit", None, ["ox", "kit", "ox"], ["ox", "Kit"],
              ["ox", "kit", ""], ["ox", "kit", "abcdefghi"], ["ox", "kit", 1], ["ox", "kit", ["a"]], ["ox", "kit", {}],
              ["ox", "kit", None], ["ox", "kit", "a", "b", "c", "d"], ["ox", "kit", b"a"], ["ox", "kit", Nasty()]],
    "measures": [{}, [], None, ["size", "age"], {"size": False, "age": 1}, {"size": 0, "age": True},
                 {"size": None, "age": True}, {"size": False, "Age": True}, {"size": False, 1: True},
                 {"size": False, "": True}, {"size": False, ("age",): True}, {"a": True, "b": True, "c": 1, "d": True},
                 {"a": True, "b": True, "c": True, "d": True}, {"size": False, "age": Nasty()}, {"a", "b"}],
    "ways": [[], tuple(WAYS), None, {}, WAYS + WAYS[:1], WAYS + [("ox", "owl", ("any", "any"))],
             WAYS + [("owl", "ox", ("any", "any"))], WAYS + [["ox", "ox", ("any", "any")]],
             WAYS + [("ox", "ox", ["any", "any"])], WAYS + [("ox", "ox", ("any",))], WAYS + [("ox", "ox", ())],
             WAYS + [("ox", "ox", ("any", "any", "any"))], WAYS + [("ox", "ox", ("any", "none"))],
             WAYS + [("ox", "ox", ("any", None))], WAYS + [("ox", "ox")], WAYS + [("ox", "ox", ("any", "any"), 1)],
             WAYS + [([], "ox", ("any", "any"))], WAYS + [("ox", {}, ("any", "any"))],
             WAYS + [("ox", "ox", ("any", []))], WAYS + [(Nasty(), Nasty(), (Nasty(), Nasty()))], WAYS + [Nasty()],
             WAYS + [Angry()], "ways", [("ox", "kit", pair) for pair in itertools.product(SIGNS, SIGNS)][:13]],
    "deep": [True, False, -1, 10, 1.0, "1", "none", [], {}, (), 10 ** 30, Nasty()],
    "tall": [True, False, 0, -1, 10, 1.0, "1", [], {}, (), 10 ** 30, Nasty()],
    "free": [0, 1, None, "True", "", [], {}, (), Nasty()],
}


def made(**changes):
    """A rule of the good parts, with some of them changed."""
    parts = {**GOOD, **changes}
    return Rule(parts["kinds"], parts["measures"], parts["ways"],
                deep=parts["deep"], tall=parts["tall"], free=parts["free"])


class WordTest(unittest.TestCase):
    def test_words(self):
        for value in ["a", "z", "az", "abcdefgh", "zzzzzzzz"]:
            self.assertIs(is_word(value), True, value)

    def test_texts_that_are_no_words(self):
        for value in ["", "abcdefghi", "A", "aB", "a1", "a b", "a ", " a", "a\n", "\n", "a_b", "\u00e9", "\u00df",
                      "\u0430", "a\u0301"]:
            self.assertIs(is_word(value), False, repr(value))

    def test_other_values(self):
        for value in odd_values() + [b"a", ["a"], ("a",), {"a": 1}]:
            self.assertIs(is_word(value), False)


class RefusedTest(unittest.TestCase):
    def refused(self, **changes):
        with self.assertRaises(BadRule) as caught:
            made(**changes)
        return caught.exception.part

    def test_each_part_wrong_alone(self):
        for part, values in WRONG.items():
            for value in values:
                self.assertEqual(self.refused(**{part: value}), part, value)

    def test_the_first_of_two_wrong_parts_is_told(self):
        for first, second in itertools.combinations(PARTS, 2):
            for one, other in itertools.product(WRONG[first], WRONG[second]):
                self.assertEqual(self.refused(**{first: one, second: other}), first)

    def test_all_parts_wrong(self):
        self.assertEqual(self.refused(**{part: values[0] for part, values in WRONG.items()}), "kinds")

    def test_any_value_for_each_part(self):
        for part in PARTS:
            for value in odd_values():
                fits = part == "free" and isinstance(value, bool) or part in ("deep", "tall") and value is None
                fits = fits or part in ("deep", "tall") and type(value) is int and (part == "tall") <= value <= 9
                if not fits:
                    self.assertEqual(self.refused(**{part: value}), part)

    def test_ways_must_fit_kinds_and_measures(self):
        self.assertEqual(self.refused(kinds=["ox"]), "ways")
        self.assertEqual(self.refused(measures={"age": True}), "ways")

    def test_limits_are_given_by_name_only(self):
        with self.assertRaises(TypeError):
            Rule(KINDS, MEASURES, WAYS, 1)


class PartsTest(unittest.TestCase):
    def test_least_and_greatest_numbers_of_parts_in_any_order(self):
        small = Rule(["k"], {"m": True}, [ANY])
        self.assertEqual((small.kinds(), small.measures(), small.ways()), (["k"], ["m"], [ANY]))
        kinds = ["e", "ab", "a", "abcdefgh", "b"]
        pairs = list(itertools.product(kinds, kinds))[:12]
        for order in (1, -1):
            measures = {word: word != "x" for word in ["z", "x", "y"][::order]}
            rule = Rule(kinds[::order], measures, [(k, b, ("any", "less", "same")) for k, b in pairs][::order])
            self.assertEqual(rule.kinds(), ["a", "ab", "abcdefgh", "b", "e"])
            self.assertEqual(rule.measures(), ["x", "y", "z"])
            self.assertEqual([rule.stays(word) for word in "xyz"], [False, True, True])
            self.assertEqual(rule.ways(), sorted([(k, b, ("any", "less", "same")) for k, b in pairs], key=str))
            self.assertEqual(len(rule), 12)

    def test_ways_and_signs_that_are_named_tuples(self):
        way = collections.namedtuple("Way", "kind base signs")
        signs = collections.namedtuple("Signs", "age size")
        ways = [("ox", "kit", ("any", "any")), way("kit", "ox", signs("any", "less")),
                ("kit", "ox", signs("any", "any"))]
        rule = made(ways=ways)
        wanted = [("kit", "ox", ("any", "any")), ("kit", "ox", ("any", "less")), ("ox", "kit", ("any", "any"))]
        self.assertEqual(repr(rule.ways()), repr(wanted))
        self.assertIs(ways[1] in rule, True)

    def test_limits(self):
        rule = Rule(["k"], {"m": True}, [ANY])
        self.assertEqual((rule.deep, rule.tall, rule.free), (None, None, False))
        for deep, tall, free in itertools.product([None, 0, 9], [None, 1, 9], [True, False]):
            rule = Rule(["k"], {"m": True}, [ANY], deep=deep, tall=tall, free=free)
            self.assertEqual((rule.deep, rule.tall), (deep, tall))
            self.assertIs(rule.free, free)

    def test_limits_are_properties(self):
        for name in ("deep", "tall", "free"):
            self.assertIsInstance(getattr(Rule, name), property)
            with self.assertRaises(AttributeError):
                setattr(made(), name, None)

    def test_stays(self):
        rule = made()
        self.assertIs(rule.stays("age"), True)
        self.assertIs(rule.stays("size"), False)
        for value in odd_values() + ["kit", "Age", ["age"], ("age",)]:
            with self.assertRaises(BadMeasure) as caught:
                rule.stays(value)
            self.assertIs(caught.exception.value, value)

    def test_ways_from(self):
        rule = made(kinds=["ox", "kit", "owl"])
        self.assertEqual(rule.ways_from("kit"), [("kit", "kit", ("more", "upto")), ("kit", "ox", ("less", "from"))])
        self.assertEqual(rule.ways_from("ox"), [("ox", "kit", ("same", "any"))])
        self.assertEqual(rule.ways_from("owl"), [])
        for value in odd_values() + ["age", "Ox", ["ox"], ("ox",)]:
            with self.assertRaises(BadKind) as caught:
                rule.ways_from(value)
            self.assertIs(caught.exception.value, value)

    def test_len_and_in(self):
        rule = made()
        self.assertEqual(len(rule), 3)
        for way in WAYS:
            self.assertIs(way in rule, True)
            self.assertIs(list(way) in rule, False)
            self.assertIs((way[0], way[1], list(way[2])) in rule, False)
        for value in odd_values() + [("ox", "kit", ("same", "same")), "ox", ("ox", "kit"), WAYS]:
            self.assertIs(value in rule, False)
            self.assertIs(value in Rule(["k"], {"m": True}, [ANY]), False)


class ChangedTest(unittest.TestCase):
    def test_changing_what_was_given(self):
        kinds, measures, ways = list(KINDS), dict(MEASURES), list(WAYS)
        rule = Rule(kinds, measures, ways)
        kinds.append("owl")
        measures["age"] = False
        measures["b"] = True
        del ways[:]
        self.assertEqual((rule.kinds(), rule.measures(), len(rule)), (["kit", "ox"], ["age", "size"], 3))
        self.assertIs(rule.stays("age"), True)
        self.assertEqual(rule, Rule(KINDS, MEASURES, WAYS))

    def test_changing_what_was_told(self):
        rule = made()
        for told in (rule.kinds, rule.measures, rule.ways, lambda: rule.ways_from("kit")):
            before = told()
            told().clear()
            told().append(1)
            self.assertEqual(told(), before)
            self.assertIs(type(told()), list)
        self.assertEqual(rule, made())

    def test_operators_and_limited_change_nothing(self):
        one, other = made(), made(ways=WAYS[1:])
        for new in (one | other, one & other, one - other, one.limited()):
            self.assertIsNot(new, one)
        self.assertEqual((one, other), (made(), made(ways=WAYS[1:])))


class OperatorsTest(unittest.TestCase):
    def test_ways_of_both_of_each_and_limits_of_the_first(self):
        one = Rule(["k"], {"m": True}, [LESS, ANY], deep=3, tall=4, free=True)
        other = Rule(["k"], {"m": True}, [MORE, ANY], deep=1)
        self.assertEqual((one | other).ways(), [ANY, LESS, MORE])
        self.assertEqual((one & other).ways(), [ANY])
        self.assertEqual((one - other).ways(), [LESS])
        self.assertEqual((other - one).ways(), [MORE])
        for rule in (one | other, one & other, one - other):
            self.assertEqual((rule.deep, rule.tall, rule.free), (3, 4, True))
            self.assertEqual((rule.kinds(), rule.measures(), rule.stays("m")), (["k"], ["m"], True))
        self.assertEqual(((other | one).deep, (other | one).tall, (other | one).free), (1, None, False))

    def test_no_ways_or_too_many(self):
        every = [("k", "k", (sign,)) for sign in SIGNS] + [("k", "l", (sign,)) for sign in SIGNS]
        full = Rule(["k", "l"], {"m": True}, every)
        more = Rule(["k", "l"], {"m": True}, [("l", "l", ("any",))])
        self.assertEqual(len(full | full), 12)
        self.assertEqual(len(full & full), 12)
        for act in (lambda: full | more, lambda: full & more, lambda: full - full, lambda: more - more):
            with self.assertRaises(BadRule) as caught:
                act()
            self.assertEqual(caught.exception.part, "ways")

    def test_others_that_do_not_fit(self):
        rule = Rule(["k"], {"m": True}, [ANY])
        others = [Rule(["l"], {"m": True}, [("l", "l", ("any",))]), Rule(["k", "l"], {"m": True}, [ANY]),
                  Rule(["k"], {"n": True}, [ANY]), Rule(["k"], {"m": False}, [ANY]),
                  Rule(["k"], {"m": True, "n": True}, [("k", "k", ("any", "any"))])]
        for other in others + odd_values():
            for act in (lambda: rule | other, lambda: rule & other, lambda: rule - other):
                with self.assertRaises(BadArgument) as caught:
                    act()
                self.assertIs(caught.exception.value, other)

    def test_equal_in_whatever_order(self):
        rule = made()
        turned = Rule(KINDS[::-1], dict(list(MEASURES.items())[::-1]), WAYS[::-1], deep=0, tall=9, free=True)
        self.assertIs(rule == turned, True)
        self.assertIs(rule != turned, False)

    def test_unequal(self):
        rule = made()
        others = [made(kinds=KINDS + ["owl"]), made(measures={"size": True, "age": True}), made(ways=WAYS[:2]),
                  made(measures={"size": False, "agf": True}), made(deep=1), made(deep=None), made(tall=8),
                  made(tall=None), made(free=False)]
        for other in others + odd_values():
            self.assertIs(rule == other, False)
            self.assertIs(rule != other, True)

    def test_limited(self):
        rule = made()
        self.assertEqual(rule.limited(), made(deep=None, tall=None, free=False))
        self.assertEqual(rule.limited(deep=3, tall=2, free=True), made(deep=3, tall=2, free=True))
        self.assertEqual(rule.limited(tall=1), made(deep=None, tall=1, free=False))
        with self.assertRaises(TypeError):
            rule.limited(1)

    def test_limited_refuses_the_first_wrong_limit(self):
        parts = PARTS[3:]
        for first, second in itertools.product(parts, parts):
            for one, other in itertools.product(WRONG[first], WRONG[second]):
                with self.assertRaises(BadRule) as caught:
                    made().limited(**{second: other, first: one})
                self.assertEqual(caught.exception.part, parts[min(parts.index(first), parts.index(second))])


class LetsByTest(unittest.TestCase):
    def test_each_sign(self):
        wanted = {"less": [-1], "upto": [-1, 0], "same": [0], "from": [0, 1], "more": [1], "any": [-1, 0, 1]}
        for sign, steps in wanted.items():
            rule = Rule(["k"], {"m": True}, [("k", "k", (sign,))], deep=0, tall=1, free=True)
            for number in (0, 5, -5, 10 ** 60, -10 ** 60):
                for step in (-1, 0, 1):
                    told = rule.lets_by("k", {"m": number}, "k", {"m": number + step})
                    self.assertIs(told, step in steps, (sign, step))

    def test_kinds_and_all_signs_count(self):
        rule = Rule(["k", "l"], {"b": True, "a": False}, [("k", "l", ("less", "more"))])
        self.assertIs(rule.lets_by("k", {"a": 1, "b": 1}, "l", {"b": 2, "a": 0}), True)
        self.assertIs(rule.lets_by("k", {"a": 1, "b": 1}, "l", {"b": 1, "a": 0}), False)
        self.assertIs(rule.lets_by("k", {"a": 1, "b": 1}, "l", {"b": 2, "a": 1}), False)
        self.assertIs(rule.lets_by("l", {"a": 1, "b": 1}, "k", {"b": 2, "a": 0}), False)
        self.assertIs(rule.lets_by("k", {"a": 1, "b": 1}, "k", {"b": 2, "a": 0}), False)

    def test_some_way_is_enough(self):
        for seed in range(60):
            rule = random_rule(seed)
            measures = rule.measures()
            numbers = list(itertools.product([-1, 0, 1], repeat=len(measures)))
            for kind, base_kind, steps in itertools.product(rule.kinds(), rule.kinds(), numbers):
                wanted = any(way[0] == kind and way[1] == base_kind and
                             all(sign_is_met(sign, 7, 7 + step) for sign, step in zip(way[2], steps))
                             for way in rule.ways())
                marks = {measure: 7 for measure in measures}
                base_marks = {measure: 7 + step for measure, step in zip(measures, steps)}
                self.assertIs(rule.lets_by(kind, marks, base_kind, base_marks), wanted)


if __name__ == "__main__":
    unittest.main()
