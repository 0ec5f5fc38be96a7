"""[2], [5], [6] and the interface of packedbases/store.py."""

import itertools
import random
import unittest

from model import Model, chain_of, height_of, limits_let, rings_of
from packedbases.errors import (BadArgument, BadBase, BadDeed, BadKind, BadMarks, BadMeasure, BadNumber, BadPacker,
                                BadThing, BadWord, Lost, PackError, Ringed)
from packedbases.rules import Rule
from packedbases.store import Store, played
from samples import ANY, SIGNS, Nasty, field_of, odd_values, random_rule, told_by

FREELY = Rule(["k"], {"m": True}, [ANY])
MOVING = Rule(["k"], {"a": False, "m": True}, [("k", "k", ("less", "any"))])
NO_PACKERS = [0, -1, 10, True, False, None, 1.0, "1", [1], (1,), {}, {1: 1}, ([],), 10 ** 30, Nasty()]
NO_NUMBERS = [True, False, None, 1.0, "1", [1], (1,), {}, b"1", ([],), Nasty()]


def all_of(store):
    """All that a store tells of itself."""
    words = store.words()
    return (words, len(store), store.forms(), store.pending(), store.script(), store.ring(),
            [(store.kind_of(word), store.marks_of(word), store.base_of(word), store.chain(word)) for word in words],
            [(told_by(lambda: store.depth(word)), told_by(lambda: store.height(word))) for word in words])


def filled(rule, words="abcd", number=0):
    """A store with whole things of the first kind."""
    store = Store(rule)
    for word in words:
        store.put(word, rule.kinds()[0], {measure: number for measure in rule.measures()})
    return store


def written(store, *pairs, packer=9):
    for word, base in pairs:
        store.ask(packer, word, base)
        store.write(packer)
    return store


def ringed(rule=FREELY, words="bcd"):
    """A store with a ring of some of its things, closed by as many packers."""
    store = filled(rule)
    links = list(zip(words, words[1:] + words[:1]))
    for packer, (word, base) in enumerate(links, 1):
        store.ask(packer, word, base)
    for packer in range(1, len(links) + 1):
        store.write(packer)
    return store


class Case(unittest.TestCase):
    def refused(self, store, kind, value, act):
        before = all_of(store)
        with self.assertRaises(kind) as caught:
            act()
        self.assertIs(type(caught.exception), kind)
        told = field_of(caught.exception)
        self.assertTrue(told is value or type(value) in (str, list) and told == value, (told, value))
        self.assertEqual(all_of(store), before)


class AskedTest(Case):
    def test_an_empty_store(self):
        store = Store(FREELY)
        self.assertIs(store.rule, FREELY)
        self.assertEqual((store.words(), len(store), store.forms(), store.pending(), store.script(), store.ring()),
                         ([], 0, {}, {}, [], None))
        self.assertIsInstance(Store.rule, property)
        self.assertEqual(Store(rule=FREELY).rule, FREELY)

    def test_only_rules(self):
        for value in odd_values():
            for act in (lambda: Store(value), lambda: Store(rule=value), lambda: played(value, value),
                        lambda: played(rule=value, script=[])):
                with self.assertRaises(BadArgument) as caught:
                    act()
                self.assertIs(caught.exception.value, value)

    def test_things(self):
        rule = Rule(["ox", "kit"], {"size": False, "age": True}, [("ox", "kit", ("any", "any"))])
        store = Store(rule)
        store.put("b", "ox", {"size": -3, "age": 10 ** 40})
        store.put(word="a", kind="kit", marks={"age": 0, "size": 1})
        store.put("abcdefgh", "kit", {"age": 0, "size": 1})
        self.assertEqual(store.words(), ["a", "abcdefgh", "b"])
        self.assertEqual((store.kind_of("b"), store.marks_of("b"), store.base_of("b")),
                         ("ox", {"age": 10 ** 40, "size": -3}, None))
        self.assertEqual(list(store.marks_of(word="b")), ["age", "size"])
        self.assertEqual((len(store), store.depth("b"), store.height("b"), store.chain("b")), (3, 0, 0, ["b"]))
        self.assertEqual(store.script(), [("put", "b", "ox", (10 ** 40, -3)), ("put", "a", "kit", (0, 1)),
                                          ("put", "abcdefgh", "kit", (0, 1))])
        self.assertIs("a" in store, True)
        self.assertIs("c" in store, False)

    def test_forms_chains_depths_and_heights(self):
        store = written(filled(FREELY, "dcbaz"), ("d", "c"), ("c", "b"), ("a", "b"))
        self.assertEqual(list(store.forms().items()), [("a", "b"), ("b", None), ("c", "b"), ("d", "c"), ("z", None)])
        self.assertEqual(store.chain("d"), ["d", "c", "b"])
        self.assertEqual({word: store.depth(word) for word in store.words()},
                         {"a": 1, "b": 0, "c": 1, "d": 2, "z": 0})
        self.assertEqual({word: store.height(word) for word in store.words()},
                         {"a": 0, "b": 2, "c": 1, "d": 0, "z": 0})

    def test_any_value_for_a_thing(self):
        store = written(filled(FREELY), ("a", "b"))
        questions = [store.kind_of, store.marks_of, store.base_of, store.chain, store.depth, store.height, store.whole]
        for value in odd_values() + ["e", "A", "any", b"a", ["a"], ("a",)]:
            self.assertIs(value in store, False)
            for act in questions:
                self.refused(store, BadThing, value, lambda: act(value))
                self.refused(store, BadThing, value, lambda: act(word=value))
            self.refused(store, BadThing, value, lambda: store.lets_by(value, value))
            self.refused(store, BadThing, value, lambda: store.lets_by(word="a", base=value))
            self.refused(store, BadThing, value, lambda: store.lets_by(value, "a"))
            self.refused(store, BadThing, value, lambda: store.mark(value, value, value))
            self.refused(store, BadThing, value, lambda: store.ask(1, value, value))
            self.refused(store, BadThing, value, lambda: store.ask(1, "a", value))

    def test_what_is_told_belongs_to_the_caller(self):
        store = written(filled(MOVING), )
        store.mark("a", "a", 5)
        store.ask(3, "a", "b")
        ring = ringed()
        for held in (store, ring):
            before = all_of(held)
            for told in (held.words(), held.script(), held.forms(), held.pending(), held.marks_of("a"),
                         held.chain("a"), held.ring() or []):
                told.clear()
                self.assertEqual(all_of(held), before)
            with self.assertRaises(PackError) as caught:
                held.lets_by("a", "e")
        marks = {"a": 1, "m": 2}
        store.put("x", "k", marks)
        marks["a"] = 9
        self.assertEqual(store.marks_of("x"), {"a": 1, "m": 2})
        with self.assertRaises(Ringed) as caught:
            ring.height("a")
        caught.exception.things.clear()
        self.assertEqual(ring.ring(), ["b", "c", "d"])


class LetsByTest(Case):
    def test_another_thing_and_a_way(self):
        rule = Rule(["k", "l"], {"m": True}, [("k", "l", ("less",)), ("l", "l", ("any",))])
        store = Store(rule)
        for word, kind, number in (("a", "k", 5), ("b", "l", 4), ("c", "l", 5)):
            store.put(word, kind, {"m": number})
        told = {pair: store.lets_by(*pair) for pair in itertools.product("abc", "abc")}
        self.assertEqual([pair for pair in told if told[pair] is True], [("a", "b"), ("b", "c"), ("c", "b")])
        self.assertTrue(all(value is False for value in told.values() if value is not True))
        self.refused(store, BadBase, "c", lambda: store.ask(1, "a", "c"))
        self.refused(store, BadBase, "a", lambda: store.ask(1, "b", "a"))
        self.refused(store, BadBase, "b", lambda: store.ask(packer=1, word="b", base="b"))

    def test_limits_one_by_one(self):
        # e -> d -> c -> b -> a, f -> b, and x, y alone.
        pairs = [("e", "d"), ("d", "c"), ("c", "b"), ("b", "a"), ("f", "b")]
        for deep, tall, free in itertools.product([None, 0, 1, 2, 9], [None, 1, 2, 3, 6, 9], [False, True]):
            rule = FREELY.limited(deep=deep, tall=tall, free=free)
            store = filled(rule, "abcdefxy")
            for packer, (word, base) in enumerate(pairs, 1):
                store.ask(packer, word, base)
            for packer in range(1, 6):
                store.write(packer)
            forms = store.forms()
            for word, base in itertools.permutations(forms, 2):
                wanted = limits_let((deep, tall, free), forms, word, base)
                self.assertIs(store.lets_by(word, base), wanted)
                if wanted:
                    store.ask(9, word, base)
                    store.stop(9)
                else:
                    self.refused(store, BadBase, base, lambda: store.ask(9, word, base))

    def test_deep_0_and_tall_1(self):
        shallow = written(filled(FREELY.limited(deep=0)), ("a", "b"))
        self.assertIs(shallow.lets_by("c", "a"), False)
        self.assertIs(shallow.lets_by("b", "c"), True)
        low = written(filled(FREELY.limited(tall=1)), ("a", "b"))
        self.assertIs(low.lets_by("c", "a"), False)
        self.assertIs(low.lets_by("b", "c"), False)
        self.assertIs(low.lets_by("c", "b"), True)

    def test_free_forbids_what_would_close_a_ring(self):
        store = written(filled(FREELY.limited(free=True)), ("a", "b"), ("b", "c"))
        self.assertEqual([store.lets_by("c", "a"), store.lets_by("b", "a"), store.lets_by("c", "d"),
                          store.lets_by("a", "c")], [False, False, True, True])
        store = written(filled(FREELY), ("a", "b"), ("b", "c"))
        self.assertIs(store.lets_by("c", "a"), True)

    def test_numbers_that_move(self):
        store = filled(MOVING)
        self.assertIs(store.lets_by("a", "b"), False)
        store.mark("b", "a", -1)
        self.assertIs(store.lets_by("a", "b"), True)
        self.assertIs(store.lets_by("b", "a"), False)


class DeedsTest(Case):
    def test_put_refuses_in_order(self):
        rule = Rule(["k", "l"], {"a": True, "b": False}, [("k", "k", ("any", "any"))])
        store = Store(rule)
        store.put("a", "k", {"a": 1, "b": 2})
        words = ["a", "A", "", "abcdefghi", "a b", None, 1, ["b"], {}, ([],), Nasty()]
        kinds = ["a", "K", "", None, True, ["k"], {}, ([],), Nasty()]
        marks = [{}, {"a": 1}, {"a": 1, "b": 2, "c": 3}, {"a": 1, "b": True}, {"a": None, "b": 2}, {"a": 1, 2: 2},
                 {"a": 1.0, "b": 2}, (1, 2), [1, 2], None, {1, 2}, {"a": [], "b": 2}, Nasty(), [("a", 1), ("b", 2)]]
        for word, kind, numbers in itertools.product(words, kinds, marks):
            self.refused(store, BadWord, word, lambda: store.put(word, kind, numbers))
            self.refused(store, BadKind, kind, lambda: store.put("b", kind, numbers))
            self.refused(store, BadMarks, numbers, lambda: store.put("b", "k", numbers))
        for numbers in [(), (1,), (1, 2, 3), (1, True), (None, 2), [1, 2], {"a": 1, "b": 2}, None, (1, [2]), Nasty()]:
            self.refused(store, BadMarks, numbers, lambda: store.do(("put", "b", "k", numbers)))
            self.refused(store, BadKind, [], lambda: store.do(("put", "b", [], numbers)))
            self.refused(store, BadWord, "a", lambda: store.do(("put", "a", [], numbers)))

    def test_mark(self):
        store = filled(MOVING)
        store.mark(word="a", measure="a", number=-7)
        store.mark("a", "a", 10 ** 50)
        store.mark("a", "a", 10 ** 50)
        self.assertEqual(store.marks_of("a"), {"a": 10 ** 50, "m": 0})
        self.assertEqual(store.script()[4:], [("mark", "a", "a", -7)] + [("mark", "a", "a", 10 ** 50)] * 2)
        for measure in ["m", "b", "", None, 1, True, ["a"], {}, ([],), Nasty()]:
            for number in [1] + NO_NUMBERS:
                self.refused(store, BadMeasure, measure, lambda: store.mark("a", measure, number))
        for number in NO_NUMBERS:
            self.refused(store, BadNumber, number, lambda: store.mark("a", "a", number))
            self.refused(store, BadNumber, number, lambda: store.do(("mark", "a", "a", number)))

    def test_whole(self):
        store = written(filled(FREELY), ("a", "b"), ("b", "c"))
        store.whole("b")
        store.whole(word="d")
        self.assertEqual(store.forms(), {"a": "b", "b": None, "c": None, "d": None})
        self.assertEqual(store.script()[-2:], [("whole", "b"), ("whole", "d")])

    def test_asking_changes_nothing_else(self):
        store = filled(FREELY)
        store.ask(packer=7, word="a", base="b")
        store.ask(2, "c", "b")
        self.assertEqual(list(store.pending().items()), [(2, ("c", "b")), (7, ("a", "b"))])
        self.assertEqual(store.forms(), dict.fromkeys("abcd"))
        store.write(packer=7)
        store.stop(packer=2)
        self.assertEqual((store.pending(), store.forms()), ({}, {"a": "b", "b": None, "c": None, "d": None}))
        self.assertEqual(store.script()[4:], [("ask", 7, "a", "b"), ("ask", 2, "c", "b"), ("write", 7), ("stop", 2)])

    def test_packers(self):
        store = filled(FREELY)
        store.ask(1, "a", "b")
        store.ask(9, "a", "b")
        for packer in [1, 9] + NO_PACKERS:
            self.refused(store, BadPacker, packer, lambda: store.ask(packer, "a", "b"))
            self.refused(store, BadPacker, packer, lambda: store.ask(packer, [], {}))
            self.refused(store, BadPacker, packer, lambda: store.do(("ask", packer, "x", "a")))
        for packer in [2, 3, 8] + NO_PACKERS:
            for act in (store.write, store.stop):
                self.refused(store, BadPacker, packer, lambda: act(packer))
            for name in ("write", "stop"):
                self.refused(store, BadPacker, packer, lambda: store.do((name, packer)))
        store.write(1)
        self.refused(store, BadPacker, 1, lambda: store.write(1))
        store.ask(1, "c", "d")

    def test_two_packers_ask_for_the_same_thing_and_the_later_writing_stands(self):
        for first, second in ((1, 2), (2, 1)):
            store = filled(FREELY)
            store.ask(1, "a", "b")
            store.ask(2, "a", "c")
            store.write(first)
            self.assertEqual(store.base_of("a"), {1: "b", 2: "c"}[first])
            store.write(second)
            self.assertEqual(store.base_of("a"), {1: "b", 2: "c"}[second])

    def test_a_base_that_is_not_let_by_any_more_is_still_written(self):
        store = filled(FREELY.limited(deep=0, tall=1, free=True))
        store.ask(1, "a", "b")
        store.ask(2, "b", "c")
        store.ask(3, "d", "a")
        store.write(2)
        self.assertIs(store.lets_by("a", "b"), False)
        store.write(1)
        store.write(3)
        self.assertEqual((store.chain("d"), store.depth("d"), store.height("c")), (["d", "a", "b", "c"], 3, 3))

    def test_marks_that_move_between_asking_and_writing(self):
        store = filled(MOVING)
        store.mark("b", "a", -1)
        store.ask(1, "a", "b")
        store.mark("b", "a", 1)
        self.assertIs(store.lets_by("a", "b"), False)
        self.refused(store, BadBase, "b", lambda: store.ask(2, "a", "b"))
        store.write(1)
        self.assertEqual(store.base_of("a"), "b")
        store.ask(1, "b", "a")
        store.mark("a", "a", 3)
        store.whole("a")
        store.write(1)
        self.assertEqual(store.forms(), {"a": None, "b": "a", "c": None, "d": None})

    def test_what_was_made_whole_is_written_all_the_same(self):
        store = written(filled(FREELY), ("a", "b"))
        store.ask(1, "a", "c")
        store.whole("a")
        store.write(1)
        self.assertEqual(store.base_of("a"), "c")

    def test_deeds_of_a_wrong_form(self):
        store = filled(FREELY)
        store.ask(1, "a", "b")
        wrong = odd_values() + [("write",), ("write", 1, 1), ["write", 1], ("whole",), ("whole", "a", "a"), ("put", "a"),
                                ("put", "e", "k", (0,), 1), ("ask", 1, "a"), ("ask", 1, "a", "b", 1), ("stop",),
                                ("mark", "a", "m"), ("Write", 1), ("drop", "a"), (1, "write"), ([], 1), ({}, 1),
                                (None, 1), (Nasty(), 1), ("write 1",), "write", ("", 1), (b"write", 1), {"write": 1}]
        for value in wrong:
            self.refused(store, BadDeed, value, lambda: store.do(value))
            self.refused(store, BadDeed, value, lambda: store.do(deed=value))

    def test_true_is_no_packer(self):
        store = filled(FREELY)
        store.ask(1, "a", "b")
        for deed in (("write", True), ("stop", True), ("ask", True, "c", "d"), ("ask", False, "c", "d")):
            self.refused(store, BadPacker, deed[1], lambda: store.do(deed))

    def test_the_deeds_as_tuples_do_what_the_methods_do(self):
        store = Store(MOVING)
        for deed in (("put", "a", "k", (2, 3)), ("put", "b", "k", (0, 0)), ("mark", "b", "a", 1), ("ask", 4, "a", "b"),
                     ("write", 4), ("whole", "a"), ("ask", 9, "a", "b"), ("stop", 9)):
            self.assertIsNone(store.do(deed))
        self.assertEqual((store.marks_of("a"), store.marks_of("b")), ({"a": 2, "m": 3}, {"a": 1, "m": 0}))
        self.assertEqual((store.forms(), store.pending(), len(store.script())), ({"a": None, "b": None}, {}, 8))


class RingTest(Case):
    def test_rings_of_two_and_three_packers(self):
        for words in ("ab", "ba", "bcd", "dcb", "cbd", "abcd", "cadb"):
            store = ringed(FREELY.limited(deep=0, tall=1, free=True), words)
            ring = store.ring()
            self.assertEqual((ring[0], sorted(ring)), (min(words), sorted(words)))
            for word, base in zip(ring, ring[1:] + ring[:1]):
                self.assertEqual(store.base_of(word), base)

    def test_a_ring_by_one_packer(self):
        store = written(filled(FREELY), ("a", "b"), ("b", "c"), ("d", "a"))
        self.assertIsNone(store.ring())
        written(store, ("c", "a"))
        self.assertEqual(store.ring(), ["a", "b", "c"])

    def test_each_question_while_there_is_a_ring(self):
        store = ringed()
        store.put("e", "k", {"m": 0})
        self.assertEqual([store.depth("a"), store.depth("e")], [0, 0])
        for word in "bcd":
            self.refused(store, Lost, word, lambda: store.depth(word))
        for word in "abcde":
            self.refused(store, Ringed, ["b", "c", "d"], lambda: store.height(word))
        self.assertEqual([store.chain("c"), store.chain("a")], [["c", "d", "b"], ["a"]])
        for pair in itertools.product("abe", "abe"):
            self.refused(store, Ringed, ["b", "c", "d"], lambda: store.lets_by(*pair))
            self.refused(store, Ringed, ["b", "c", "d"], lambda: store.ask(5, *pair))
        self.refused(store, BadThing, "x", lambda: store.height("x"))
        self.refused(store, BadThing, "x", lambda: store.lets_by("a", "x"))
        self.refused(store, BadPacker, True, lambda: store.ask(True, "x", "x"))
        self.assertEqual(store.forms(), {"a": None, "b": "c", "c": "d", "d": "b", "e": None})

    def test_each_deed_while_there_is_a_ring(self):
        store = filled(Rule(["k"], {"a": False, "m": True}, [("k", "k", ("any", "any"))]), "abcdef")
        for packer, pair in enumerate(["bc", "cb", "ab", "ef", "bf"], 1):
            store.ask(packer, *pair)
        store.write(1)
        store.write(2)
        self.assertEqual(store.ring(), ["b", "c"])
        store.put("g", "k", {"a": 1, "m": 1})
        store.mark("b", "a", 6)
        store.write(3)
        self.assertEqual(store.chain("a"), ["a", "b", "c"])
        self.refused(store, Lost, "a", lambda: store.depth("a"))
        store.stop(4)
        store.whole("a")
        self.assertEqual(store.ring(), ["b", "c"])
        store.write(5)
        self.assertIsNone(store.ring())
        self.assertEqual((store.depth("c"), store.height("f"), store.lets_by("a", "c")), (2, 2, True))

    def test_making_whole_opens_a_ring(self):
        for word in "bcd":
            store = ringed()
            store.whole(word)
            self.assertIsNone(store.ring())
            self.assertEqual(store.height(word), 2)

    def test_several_rings(self):
        store = filled(FREELY, "abcdefg")
        links = ["ed", "de", "cb", "bf", "fc", "ag"]
        for packer, pair in enumerate(links, 1):
            store.ask(packer, *pair)
        store.ask(9, "g", "e")
        for packer in (1, 2):
            store.write(packer)
        self.assertEqual(store.ring(), ["d", "e"])
        for packer in (3, 4, 5, 6, 9):
            store.write(packer)
        self.assertEqual(store.ring(), ["b", "f", "c"])
        self.refused(store, Lost, "a", lambda: store.depth("a"))
        self.assertEqual(store.chain("a"), ["a", "g", "e", "d"])


class PlayedTest(Case):
    def test_the_own_script_of_a_store(self):
        for store in (Store(FREELY), filled(FREELY), ringed(), ringed(MOVING.limited(), "")):
            again = played(store.rule, store.script())
            self.assertEqual(all_of(again), all_of(store))
            again.put("new", "k", again.marks_of("a") if len(again) else {"m": 0})
            self.assertNotIn("new", store)

    def test_no_list(self):
        for value in odd_values() + [(("put", "a", "k", (0,)),), {("put", "a", "k", (0,)): 1}, "write"]:
            if not isinstance(value, list):
                with self.assertRaises(BadDeed) as caught:
                    played(FREELY, value)
                self.assertIs(caught.exception.value, value)

    def test_the_first_wrong_deed_is_told(self):
        put = ("put", "a", "k", (0,))
        wrong = [(("write", 1), BadPacker, 1), (put, BadWord, "a"), (("put", "b", "l", 1), BadKind, "l"),
                 (("put", "b", "k", [0]), BadMarks, [0]), (None, BadDeed, None), (["write", 1], BadDeed, ["write", 1]),
                 (("whole", "b"), BadThing, "b"), (("mark", "a", "m", 1), BadMeasure, "m"),
                 (("ask", 1, "a", "a"), BadBase, "a"), (("ask", True, "a", "a"), BadPacker, True)]
        for deed, kind, value in wrong:
            with self.assertRaises(kind) as caught:
                played(rule=FREELY, script=[put, deed, None, ("odd",)])
            self.assertEqual(field_of(caught.exception), value)

    def test_the_script_is_not_kept(self):
        script = [("put", "a", "k", (0,))]
        store = played(FREELY, script)
        script.clear()
        self.assertEqual(store.script(), [("put", "a", "k", (0,))])


class ManyDeedsTest(Case):
    def random_deed(self, draw, store):
        words = store.words() + ["q", ["a"]] if draw.random() < 0.1 else store.words() or ["a"]
        word, base = draw.choice(words), draw.choice(words)
        packer = draw.choice([1, 2, 3, 4, 5, 9] if draw.random() < 0.9 else [0, True, None])
        asked = draw.choice(list(store.pending())) if store.pending() and draw.random() < 0.9 else packer
        measure = draw.choice(store.rule.measures() + ["m"])
        kind = draw.choice(store.rule.kinds() * 4 + ["k"])
        numbers = tuple(draw.choice([-1, 0, 0, 1]) for _ in store.rule.measures())
        deeds = [("put", draw.choice("abcdef"), kind, numbers), ("mark", word, measure, draw.choice([0, 1])),
                 ("ask", packer, word, base), ("write", asked), ("stop", asked), ("whole", word), ("odd", word)]
        return draw.choices(deeds, [12, 6, 30, 16, 1, 1, 1])[0]

    def check(self, store, model):
        self.assertEqual((store.forms(), store.pending(), store.script()), (model.bases, model.asked, model.script))
        self.assertEqual(store.words(), sorted(model.bases))
        rings = rings_of(model.bases)
        self.assertEqual(store.ring(), rings[0] if rings else None)
        for word, base in model.bases.items():
            chain = chain_of(model.bases, word)
            self.assertEqual((store.chain(word), store.base_of(word)), (chain, base))
            self.assertEqual((store.kind_of(word), store.marks_of(word)), (model.kinds[word], model.marks[word]))
            self.assertEqual(told_by(lambda: store.depth(word)),
                             len(chain) - 1 if model.bases[chain[-1]] is None else (Lost, word))
            self.assertEqual(told_by(lambda: store.height(word)),
                             (Ringed, rings[0]) if rings else height_of(model.bases, word))
            for other in model.bases:
                self.assertEqual(told_by(lambda: store.lets_by(word, other)), model.lets_by(word, other))

    def test_many_deeds_held_against_the_model(self):
        told = {}
        for seed in range(150):
            draw = random.Random(seed)
            rule = random_rule(seed, kinds=2, ways=8, signs=["any"] * 8 + SIGNS).limited(
                deep=draw.choice([None, 0, 1, 2]), tall=draw.choice([None, 1, 2, 3]), free=draw.random() < 0.5)
            store, model = Store(rule), Model(rule)
            for _ in range(60):
                deed = self.random_deed(draw, store)
                wrong = model.do(deed)
                kind = wrong[0] if wrong else deed[0]
                told[kind] = told.get(kind, 0) + 1
                self.assertEqual(told_by(lambda: store.do(deed)), wrong)
            self.check(store, model)
            self.assertEqual(all_of(played(rule, store.script())), all_of(store))
        kinds = [BadPacker, BadThing, BadBase, BadWord, BadKind, BadMeasure, BadDeed, Ringed, "put", "mark", "ask",
                 "write", "stop", "whole"]
        self.assertGreater(min(told.get(kind, 0) for kind in kinds), 20, told)

    def test_a_long_chain(self):
        words = [a + b + c for a in "abc" for b in "abcdefghij" for c in "abcdefghijklmnopqrstuvwxyz"]
        store = filled(FREELY, words)
        for packer in (1, 2):
            written(store, *zip(words[packer - 1::2], words[packer::2]), packer=packer)
        self.assertEqual((store.depth(words[0]), store.height(words[-1])), (len(words) - 1, len(words) - 1))
        written(store, (words[-1], words[0]))
        self.assertEqual(store.ring(), words)


if __name__ == "__main__":
    unittest.main()
