"""[1] (h), [2], [16] and the interface of packedbases/live.py."""

import functools
import itertools
import random
import unittest

from model import chain_of, height_of, limits_let, limits_of, rings_of
from packedbases.errors import (BadArgument, BadBase, BadChange, BadKind, BadMarks, BadMeasure, BadNumber, BadWord,
                                Leaned, Ringed)
from packedbases.live import Live, change_of, cost_of, least_cost, made, tried
from packedbases.rules import Rule
from samples import ANY, SIGNS, Angry, Nasty, field_of, odd_values, random_rule, told_by

FREELY = Rule(["k"], {"m": True}, [ANY])
MOVING = Rule(["k", "l"], {"a": False, "m": True}, [("k", "k", ("less", "any"))], free=True)
NO_CONTENTS = [(1, 2), {1: 2}, "12", [True], [1, False], [1.0], [None], ["1"], [[1]], [(1,)], [1] * 61, range(3),
               [Nasty()], [1, Angry()], b"12", {1, 2}]
NO_ROWS = [("keep", 0), ("keep", 0, 0), ("keep", 0, -1), ("keep", -1, 1), ("keep", True, 1), ("keep", 0, True),
           ("keep", False, 1), ("keep", 0.0, 1), ("keep", 0, 1, 1), ("keep", None, 1), ("keep", [0], 1), ["keep", 0, 1],
           ("keep", (0, 1)), ("put", ()), ("put", [1]), ("put", 1), ("put", (True,)), ("put", (1.0,)), ("put", (1, None)),
           ("put",), ("put", (1,), 1), ["put", (1,)], ("put", "1"), ("drop", 0, 1), ("Keep", 0, 1), ("put", ([],)),
           (["keep"], 0, 1), (None, (1,)), (), None, "put", Nasty(), (Nasty(), 0, 1), ("put", Nasty()),
           ("put", (Angry(),)), ("keep", 0, 61), ("keep", 60, 1), ("keep", 10 ** 30, 1), ("keep", 0, 10 ** 30)]


def contents_of(base, change):
    """[16], word for word: what a change makes."""
    numbers = []
    for row in change:
        if row[0] == "keep":
            assert 0 <= row[1] and row[2] >= 1 and row[1] + row[2] <= len(base)
            numbers += base[row[1]:row[1] + row[2]]
        else:
            numbers += row[1]
    return numbers


def least_by_search(base, target):
    """The least cost of all changes, by trying all keeps and puts from each place on."""
    @functools.lru_cache(maxsize=None)
    def least(at, behind_put):
        if at == len(target):
            return 0
        costs = [2 + least(at + many, False) for start in range(len(base)) for many in range(1, len(base) - start + 1)
                 if base[start:start + many] == target[at:at + many]]
        if not behind_put:
            costs += [1 + many + least(at + many, True) for many in range(1, len(target) - at + 1)]
        return min(costs, default=1000)
    return least(0, False)


def all_of(live):
    """All that a live store tells of itself."""
    words = live.words()
    return (words, len(live), live.forms(), live.total(), [(live[word], live.size(word), live.depth(word))
                                                         for word in words])


def filled(rule=FREELY, **contents):
    """A live store with whole things of the first kind, with numbers 0."""
    live = Live(rule)
    for word, numbers in contents.items():
        live.put(word, rule.kinds()[0], {measure: 0 for measure in rule.measures()}, numbers)
    return live


class Case(unittest.TestCase):
    def refused(self, kind, value, act, *parts, store=None):
        before = store and all_of(store)
        with self.assertRaises(kind) as caught:
            act(*parts)
        self.assertIs(type(caught.exception), kind)
        told = field_of(caught.exception)
        self.assertTrue(told is value or type(value) in (str, list, tuple) and told == value, (told, value))
        self.assertEqual(store and all_of(store), before)


class ChangeTest(Case):
    def test_rows(self):
        base = [5, 6, 7, 8]
        for change, wanted, cost in (
                ([], [], 0), ([("keep", 0, 4)], base, 2), ([("keep", 3, 1)], [8], 2), ([("put", (1, -2))], [1, -2], 3),
                ([("keep", 2, 2), ("keep", 0, 2)], [7, 8, 5, 6], 4), ([("put", (9,)), ("keep", 1, 1), ("put", (9, 9))],
                                                                      [9, 6, 9, 9], 7),
                ([("keep", 0, 1)] * 3, [5, 5, 5], 6)):
            self.assertEqual((made(base, change), cost_of(change)), (wanted, cost))
            self.assertEqual((made(change=change, base=base), cost_of(change=change)), (wanted, cost))
        self.assertEqual(made([], [("put", (10 ** 50,))]), [10 ** 50])

    def test_the_greatest_contents_and_changes_that_make_more(self):
        base = list(range(60))
        self.assertEqual(made(base, [("keep", 0, 60)]), base)
        self.assertEqual(made(base, [("keep", 59, 1), ("put", tuple(range(59)))]), [59] + list(range(59)))
        self.assertEqual(cost_of([("put", tuple(range(60)))]), 61)
        self.assertEqual(cost_of([("keep", at, 1) for at in range(60)]), 120)
        for change in ([("keep", 0, 60), ("put", (1,))], [("put", tuple(range(61)))], [("keep", 0, 1)] * 61,
                       [("keep", 0, 31), ("keep", 0, 30)]):
            self.refused(BadChange, change, made, base, change)
            self.refused(BadChange, change, cost_of, change)

    def test_two_puts_and_keeps_of_what_the_base_has_not(self):
        for change in ([("put", (1,)), ("put", (2,))], [("keep", 0, 1), ("put", (1,)), ("put", (2,)), ("keep", 0, 1)]):
            self.refused(BadChange, change, made, [1, 2, 3], change)
            self.refused(BadChange, change, cost_of, change)
        self.assertEqual(made([3], [("put", (1,)), ("keep", 0, 1), ("put", (2,))]), [1, 3, 2])
        for many in (0, 1, 3, 58):
            base = list(range(many))
            for change in ([("keep", 0, many + 1)], [("keep", many, 1)], [("put", (1,)), ("keep", many + 1, 1)],
                           [("keep", 60 - 1, 1)]):
                self.refused(BadChange, change, made, base, change)
                self.assertEqual(cost_of(change), 2 * [row[0] for row in change].count("keep") + 2 * (len(change) - 1))

    def test_wrong_changes(self):
        for row in NO_ROWS:
            for change in ([row], [("keep", 0, 1), row], [row, ("put", (1,))], (row,), row):
                self.refused(BadChange, change, made, list(range(60)), change)
                self.refused(BadChange, change, cost_of, change)
        for value in odd_values() + [(("keep", 0, 1),), {("keep", 0, 1): 1}]:
            if not isinstance(value, list) or value:
                self.refused(BadChange, value, made, [1], value)
                self.refused(BadChange, value, cost_of, value)

    def test_wrong_contents(self):
        for value in NO_CONTENTS + [value for value in odd_values() if not isinstance(value, list) or value]:
            for act in (made, change_of, least_cost):
                self.refused(BadArgument, value, act, value, value)
                self.refused(BadArgument, value, act, value, [])
            for act in (change_of, least_cost):
                self.refused(BadArgument, value, act, [], value)
                self.refused(BadArgument, value, lambda: act(target=value, base=[1]))

    def check(self, base, target, wanted=None):
        change = change_of(base, target)
        self.assertIs(type(change), list)
        self.assertEqual((contents_of(base, change), made(base, change)), (target, target))
        self.assertEqual(cost_of(change), least_cost(base, target))
        if wanted is not None:
            self.assertEqual(cost_of(change), wanted)
        self.assertEqual(change_of(target=target, base=base), change)

    def test_contents_of_0_1_and_60_numbers(self):
        many = list(range(60))
        for base, target, wanted in (
                ([], [], 0), ([1], [], 0), (many, [], 0), ([], [1], 2), ([1], [1], 2), ([2], [1], 2), ([], many, 61),
                (many, many, 2), (many, many[30:] + many[:30], 4), (many, many[:20] + [-1] + many[21:], 6),
                (many, many[1::2], 31), (many, [0] * 60, 61), ([0] * 60, [0] * 60, 2), ([0] * 30, [0] * 60, 4),
                (many, many[:20] + many[40:] + [7, 7], 7), (many, many[::-1], 61)):
            self.check(base, target, wanted)

    def test_all_short_contents(self):
        for long, short in ((3, 4), (4, 3)):
            for base in itertools.product((1, 2), repeat=long):
                for target in itertools.product((1, 2, 3), repeat=short):
                    self.check(list(base), list(target), least_by_search(base, target))

    def test_many_contents(self):
        for seed in range(300):
            draw = random.Random(seed)
            base = [draw.randrange(draw.choice([2, 4, 9])) for _ in range(draw.randint(0, 12))]
            cut = sorted(draw.choices(range(len(base) + 1), k=2))
            target = base[cut[1]:] + [draw.randrange(4) for _ in range(draw.randint(0, 3))] + base[cut[0]:cut[1]]
            self.check(base, target, least_by_search(tuple(base), tuple(target)))

    def test_lists_belong_to_the_caller(self):
        base, target = [1, 2, 3], [3, 1, 2, 9]
        change = change_of(base, target)
        kept = list(change)
        change.clear()
        made(base, kept).clear()
        self.assertEqual((base, target, change_of(base, target), made(base, kept)), ([1, 2, 3], [3, 1, 2, 9], kept, target))


class LiveTest(Case):
    def test_an_empty_store(self):
        live = Live(rule=FREELY)
        self.assertEqual(all_of(live), ([], 0, {}, 0, []))
        for value in odd_values():
            self.refused(BadArgument, value, Live, value)

    def test_things_and_sizes(self):
        live = filled(b=[1, 2, 3, 4, 5, 6], a=[1, 2, 3, 4, 5, 7], c=[])
        self.assertEqual((live.words(), len(live), live.total()), (["a", "b", "c"], 3, 12))
        live.pack(word="a", base="b")
        self.assertEqual((live.size("a"), live.size(word="b"), live.size("c"), live.total()), (4, 6, 0, 10))
        self.assertEqual(list(live.forms().items()), [("a", "b"), ("b", None), ("c", None)])
        self.assertEqual((live["a"], live.depth("a"), live.depth("b")), ([1, 2, 3, 4, 5, 7], 1, 0))
        live.whole(word="a")
        self.assertEqual((live.size("a"), live.forms()["a"], live["a"]), (6, None, [1, 2, 3, 4, 5, 7]))
        self.assertIs("a" in live, True)
        live.drop(word="a")
        self.assertIs("a" in live, False)
        live.put(marks={"m": 4}, contents=[1], kind="k", word="a")
        self.assertEqual(live["a"], [1])

    def test_put_refuses_in_order(self):
        live = filled(a=[1])
        for word, kind, marks, contents in itertools.product(
                ["a", "A", "", None, ["b"], Nasty()], ["l", None, ["k"], Nasty()],
                [{}, {"m": True}, (0,), None, Nasty()], [None, (1,), [True], [1] * 61]):
            self.refused(BadWord, word, live.put, word, kind, marks, contents, store=live)
            self.refused(BadKind, kind, live.put, "b", kind, marks, contents, store=live)
            self.refused(BadMarks, marks, live.put, "b", "k", marks, contents, store=live)
            self.refused(BadArgument, contents, live.put, "b", "k", {"m": 0}, contents, store=live)
        for contents in NO_CONTENTS:
            self.refused(BadArgument, contents, live.put, "b", "k", {"m": 0}, contents, store=live)
            self.refused(BadArgument, contents, live.rewrite, "a", contents, store=live)
            self.refused(BadArgument, contents, lambda: live.rewrite(contents=contents, word="a"), store=live)
            self.refused(BadArgument, contents, self.assign, live, "a", contents, store=live)

    def assign(self, live, word, contents):
        live[word] = contents

    def test_any_value_for_a_word(self):
        live = filled(a=[1], b=[2])
        live.pack("a", "b")
        for value in odd_values() + ["c", "A", b"a", ["a"], ("a",)]:
            self.assertIs(value in live, False)
            for act in (live.whole, live.drop, live.size, live.depth, lambda word: live[word]):
                self.refused(BadWord, value, act, value, store=live)
            self.refused(BadWord, value, live.mark, value, value, value, store=live)
            self.refused(BadWord, value, live.pack, value, value, store=live)
            self.refused(BadWord, value, live.pack, "a", value, store=live)
            self.refused(BadWord, value, live.pack, value, "a", store=live)
            self.refused(BadWord, value, live.rewrite, value, value, store=live)
            self.refused(BadWord, value, self.assign, live, value, value, store=live)
            self.refused(BadWord, value, lambda: live.drop(word=value), store=live)

    def test_marks(self):
        live = filled(MOVING, a=[1, 2], b=[1, 2, 3])
        self.refused(BadBase, "b", live.pack, "a", "b", store=live)
        live.mark(word="b", measure="a", number=-1)
        live.pack("a", "b")
        self.assertEqual(live.forms(), {"a": "b", "b": None})
        live.mark("b", "a", 9)
        self.assertEqual(live["a"], [1, 2])
        self.refused(BadBase, "b", live.pack, "a", "b", store=live)
        for measure in ["m", "b", "", None, 1, ["a"], Nasty()]:
            self.refused(BadMeasure, measure, live.mark, "a", measure, None, store=live)
        for number in [True, None, 1.0, "1", [1], Nasty()]:
            self.refused(BadNumber, number, live.mark, "a", "a", number, store=live)

    def test_marks_of_three_measures(self):
        stays = {"a": False, "b": False, "c": False}
        live = filled(Rule(["k"], stays, [("k", "k", ("less", "more", "same"))]), x=[1], y=[2])
        for measure, number in (("a", 4), ("b", 3), ("c", 5)):
            self.refused(BadBase, "y", live.pack, "x", "y", store=live)
            live.mark("x", measure, number)
        live.mark("y", "b", 4)
        self.refused(BadBase, "y", live.pack, "x", "y", store=live)
        live.mark("y", "c", 5)
        live.pack("x", "y")
        self.assertEqual(live.forms(), {"x": "y", "y": None})

    def test_limits_by_the_forms_that_are_written_now(self):
        live = filled(FREELY.limited(deep=1), a=[1], b=[2], c=[3], d=[4])
        live.pack("a", "b")
        live.pack("b", "c")
        self.refused(BadBase, "a", live.pack, "d", "a", store=live)
        live.pack("d", "b")
        live = filled(FREELY.limited(tall=1), a=[1], b=[2], c=[3])
        live.pack("a", "b")
        self.refused(BadBase, "c", live.pack, "b", "c", store=live)
        self.refused(BadBase, "a", live.pack, "c", "a", store=live)
        live.pack("a", "c")
        live.pack("a", "b")
        self.refused(BadBase, "a", live.pack, "a", "a", store=live)
        live = filled(FREELY.limited(free=True), a=[1], b=[2])
        live.pack("a", "b")
        self.refused(BadBase, "a", live.pack, "b", "a", store=live)

    def test_rings_are_refused_with_their_words(self):
        live = filled(d=[1], b=[2], c=[3], a=[4])
        for word, base in (("d", "b"), ("b", "c")):
            live.pack(word, base)
        self.refused(Ringed, ["b", "c", "d"], live.pack, "c", "d", store=live)
        self.refused(Ringed, ["b", "c"], live.pack, "c", "b", store=live)
        live.pack("c", "a")
        self.refused(Ringed, ["a", "d", "b", "c"], live.pack, "a", "d", store=live)
        with self.assertRaises(Ringed) as caught:
            live.pack("c", "d")
        caught.exception.things.clear()
        self.refused(Ringed, ["b", "c", "d"], live.pack, "c", "d", store=live)
        self.refused(BadBase, "c", live.pack, "c", "c", store=live)

    def test_a_rewrite_of_a_thing_on_which_others_lean(self):
        for rewrite in (lambda live, word, contents: live.rewrite(word, contents), lambda *parts: self.assign(*parts)):
            live = filled(a=[1, 2, 3, 4, 5, 6], b=[1, 2, 3, 4, 5], c=[1, 2, 3, 4], d=[3, 4, 5, 6], e=[9, 9, 9])
            for word, base in (("a", "b"), ("d", "b"), ("b", "c"), ("e", "a")):
                live.pack(word, base)
            forms = live.forms()
            self.assertEqual([live.size(word) for word in "abcde"], [4, 4, 4, 4, 4])
            rewrite(live, "b", [6, 5, 4, 3])
            self.assertEqual(live.forms(), forms)
            self.assertEqual([live[word] for word in "abcde"], [[1, 2, 3, 4, 5, 6], [6, 5, 4, 3], [1, 2, 3, 4],
                                                               [3, 4, 5, 6], [9, 9, 9]])
            self.assertEqual([live.size(word) for word in "abcde"], [7, 5, 4, 5, 4])
            rewrite(live, "c", [6, 5, 4, 3])
            self.assertEqual([live.size(word) for word in "abcde"], [7, 2, 4, 5, 4])
            rewrite(live, "b", [])
            self.assertEqual([live.size(word) for word in "abcde"], [7, 0, 4, 5, 4])
            self.assertEqual(live.forms(), forms)

    def test_drop(self):
        live = filled(a=[1], b=[2], c=[3])
        live.pack("a", "b")
        self.refused(Leaned, "b", live.drop, "b", store=live)
        live.drop("a")
        live.drop("b")
        self.assertEqual((live.words(), live.forms()), (["c"], {"c": None}))
        self.refused(BadWord, "b", live.drop, "b", store=live)

    def test_sixty_numbers(self):
        numbers = list(range(60))
        live = filled(**{word: numbers[at:] + numbers[:at] for at, word in enumerate("abcdefghij")})
        for word, base in zip("abcdefghi", "bcdefghij"):
            live.pack(word, base)
        self.assertEqual((live.total(), live.depth("a"), live["a"]), (60 + 9 * 4, 9, numbers))

    def test_what_is_told_belongs_to_the_caller(self):
        contents, marks = [1, 2], {"m": 0}
        live = Live(FREELY)
        live.put("a", "k", marks, contents)
        live.put("b", "k", marks, contents)
        live.pack("a", "b")
        contents.append(3)
        marks["m"] = 7
        before = all_of(live)
        for told in (live["a"], live["b"], live.words(), live.forms()):
            told.clear()
            self.assertEqual(all_of(live), before)
        new = [5]
        live["b"] = new
        new.append(6)
        self.assertEqual((live["b"], live["a"]), ([5], [1, 2]))
        self.assertEqual(live, self.equal_one())

    def equal_one(self):
        live = filled(b=[5], a=[1, 2])
        live.pack("a", "b")
        return live


class CopyTest(Case):
    def test_equal_stores(self):
        live = filled(MOVING, a=[1, 2], b=[1, 2, 3])
        other = filled(MOVING, b=[1, 2, 3], a=[1, 2])
        self.assertIs(live == other, True)
        for act in (lambda: other.mark("a", "a", 1), lambda: other.rewrite("a", [1]), lambda: other.drop("a"),
                    lambda: other.put("c", "k", {"a": 0, "m": 0}, []),
                    lambda: [other.mark("b", "a", -1), other.pack("a", "b"), other.mark("b", "a", 0)]):
            other = live.copy()
            self.assertIs(live == other, True)
            act()
            self.assertIs(live == other, False)
            self.assertIs(live != other, True)
        other.whole("a")
        self.assertEqual(live, other)
        self.assertNotEqual(live, filled(MOVING.limited(), a=[1, 2], b=[1, 2, 3]))
        unlike = Live(MOVING)
        unlike.put("a", "l", {"a": 0, "m": 0}, [1])
        self.assertNotEqual(unlike, filled(MOVING, a=[1]))
        for value in (None, MOVING, {}, [], "live", 0):
            self.assertIs(live == value, False)

    def test_the_order_of_deeds_does_not_matter(self):
        one, two = filled(a=[1, 2, 3], b=[2, 3, 4]), filled(b=[7], a=[8])
        one.pack("a", "b")
        two.pack("a", "b")
        two["a"] = [1, 2, 3]
        two["b"] = [2, 3, 4]
        self.assertEqual(one, two)

    def test_a_copy_goes_on_by_itself(self):
        live = filled(a=[1, 2], b=[1, 2, 3], c=[4])
        live.pack("a", "b")
        copy = live.copy()
        self.assertIsInstance(copy, Live)
        before = all_of(live)
        copy.put("d", "k", {"m": 0}, [5])
        copy["b"] = [9]
        copy.whole("a")
        copy.drop("c")
        self.assertEqual(all_of(live), before)
        live["a"] = [7, 7]
        live.put("e", "k", {"m": 0}, [])
        self.assertEqual((copy.words(), copy["a"], copy["b"]), (["a", "b", "d"], [1, 2], [9]))


class TrialTest(Case):
    def test_a_trial_that_no_error_leaves(self):
        live = filled(a=[1, 2], b=[1, 2, 3])
        before = all_of(live)
        with live.trial() as work:
            self.assertIsInstance(work, Live)
            self.assertIsNot(work, live)
            self.assertEqual(work, live)
            work.pack("a", "b")
            work.put("c", "k", {"m": 0}, [8])
            self.assertEqual(all_of(live), before)
        self.assertEqual(live, work)
        self.assertEqual((live.forms(), live["c"]), ({"a": "b", "b": None, "c": None}, [8]))
        work["c"] = [1]
        live["a"] = [3]
        self.assertEqual((live["c"], work["a"]), ([8], [1, 2]))

    def test_a_trial_that_an_error_leaves(self):
        for kind in (BadWord, ValueError, KeyboardInterrupt, GeneratorExit):
            live = filled(a=[1, 2], b=[1, 2, 3])
            before = all_of(live)
            with self.assertRaises(kind):
                with live.trial() as work:
                    work.pack("a", "b")
                    work["b"] = [7]
                    if kind is BadWord:
                        work.drop("q")
                    raise kind()
            self.assertEqual(all_of(live), before)
            self.assertEqual((work["b"], work["a"]), ([7], [1, 2]))
            work.whole("a")
            work.drop("b")
            self.assertEqual(all_of(live), before)

    def test_the_copy_is_made_when_the_block_is_entered(self):
        live = filled(a=[1])
        trial = live.trial()
        live["a"] = [2]
        with trial as work:
            self.assertEqual(work["a"], [2])
            live["a"] = [3]
        self.assertEqual(live["a"], [2])

    def test_a_trial_in_a_trial_and_a_block_that_is_left_early(self):
        live = filled(a=[1, 2], b=[1, 2, 3])

        def early():
            with live.trial() as work:
                with work.trial() as more:
                    more["a"] = [4]
                try:
                    with work.trial() as more:
                        more["b"] = [5]
                        raise ValueError
                except ValueError:
                    return work["a"] + work["b"]

        self.assertEqual(early(), [4, 1, 2, 3])
        self.assertEqual((live["a"], live["b"]), ([4], [1, 2, 3]))

    def test_tried(self):
        live = filled(a=[1, 2, 3, 4], b=[1, 2, 3, 4, 5, 6], c=[1, 2, 3, 4, 5, 6, 7])
        self.assertEqual(tried(live, [], []), 17)
        self.assertEqual(tried(bases=["b", "c"], words=["a", "b"], live=live), 2 + 2 + 7)
        self.assertEqual((live.forms(), live.total()), ({"a": "b", "b": "c", "c": None}, 11))
        self.assertEqual(tried(live, ["a", "a"], ["c", "b"]), 11)
        for words, bases, kind, value in (
                (["a", "c"], ["c", "a"], Ringed, ["a", "c"]), (["a", "q"], ["c", "a"], BadWord, "q"),
                (["a", "b"], ["c", None], BadWord, None), (["a", "b"], ["c", "b"], BadBase, "b"),
                (["a", []], ["c", {}], BadWord, [])):
            self.refused(kind, value, tried, live, words, bases, store=live)
        for words in (("a",), "a", {"a": 1}, None):
            self.refused(BadArgument, words, tried, live, words, ["b"], store=live)
            self.refused(BadArgument, words, tried, live, words, None, store=live)
        for value in odd_values():
            self.refused(BadArgument, value, tried, value, value, value)
            if not isinstance(value, list):
                self.refused(BadArgument, value, tried, live, value, value, store=live)
                self.refused(BadArgument, value, tried, live, ["q"], value, store=live)
            for bases in (["b"], ["b", "b", "b"], []):
                self.refused(BadArgument, bases, tried, live, ["a", "q"], bases, store=live)


class WholeCopiesTest(Case):
    """[1] (h): held against whole copies of all contents behind every deed."""

    def random_contents(self, draw, whole):
        known = draw.choice(list(whole.values()) or [[]])
        at = draw.randint(0, len(known))
        return draw.choice([known[:at] + [draw.randint(0, 3)] + known[at:], known[at:] + known[:at], known[:at],
                            [draw.randint(0, 3) for _ in range(draw.randint(0, 9))]])[:60]

    def random_deed(self, draw, whole):
        words = list(whole) + ["q"] if draw.random() < 0.1 else list(whole) or ["a"]
        word, base = draw.choice(words), draw.choice(words)
        contents = self.random_contents(draw, whole)
        return draw.choices([("put", draw.choice("abcdefg"), contents), ("pack", word, base), ("whole", word),
                             ("rewrite", word, contents), ("drop", word)], [5, 10, 1, 6, 1])[0]

    def wanted(self, rule, deed, whole, forms):
        """What a deed does to whole copies and forms, or its error and the value of it."""
        name, word, *more = deed
        if name == "put":
            if word in whole:
                return BadWord, word
            whole[word], forms[word] = more[0], None
            return None
        for held in (word, *(more if name == "pack" else [])):
            if held not in whole:
                return BadWord, held
        if name == "pack":
            base = more[0]
            if word == base or not limits_let(limits_of(rule), forms, word, base):
                return BadBase, base
            rings = rings_of({**forms, word: base})
            if rings:
                return Ringed, rings[0]
            forms[word] = base
        elif name == "whole":
            forms[word] = None
        elif name == "rewrite":
            whole[word] = more[0]
        elif word in forms.values():
            return Leaned, word
        else:
            del whole[word], forms[word]
        return None

    def check(self, live, whole, forms):
        self.assertEqual({word: live[word] for word in live.words()}, whole)
        self.assertEqual(list(live.forms().items()), sorted(forms.items()))
        sizes = {word: len(whole[word]) if base is None else least_cost(whole[base], whole[word])
                 for word, base in forms.items()}
        self.assertEqual({word: live.size(word) for word in live.words()}, sizes)
        self.assertEqual(live.total(), sum(sizes.values()))
        for word in whole:
            self.assertEqual(live.depth(word), len(chain_of(forms, word)) - 1)

    def do(self, live, deed):
        name, *parts = deed
        if name == "put":
            parts = [parts[0], "k", {"m": 0}, parts[1]]
        if name == "rewrite" and len(parts[1]) % 2:
            live[parts[0]] = parts[1]
            return None
        return getattr(live, name)(*parts)

    def test_many_deeds(self):
        told = {}
        for seed in range(120):
            draw = random.Random(seed)
            rule = FREELY.limited(deep=draw.choice([None, None, 1, 2]), tall=draw.choice([None, None, 2, 4]),
                                  free=draw.random() < 0.3)
            live, whole, forms = Live(rule), {}, {}
            for _ in range(50):
                deed = self.random_deed(draw, whole)
                wanted = self.wanted(rule, deed, whole, forms)
                self.assertEqual(told_by(lambda: self.do(live, deed)), wanted)
                self.check(live, whole, forms)
                key = deed[0] if wanted is None else wanted[0]
                told[key] = told.get(key, 0) + 1
                if draw.random() < 0.1:
                    live = live.copy()
        keys = ["put", "pack", "whole", "rewrite", "drop", BadWord, BadBase, Ringed, Leaned]
        self.assertGreater(min(told.get(key, 0) for key in keys), 20, told)

    def test_many_rules(self):
        for seed in range(60):
            draw = random.Random(seed)
            rule = random_rule(seed, kinds=2, ways=6, signs=["any"] * 4 + SIGNS).limited(
                deep=draw.choice([None, 0, 1]), tall=draw.choice([None, 1, 3]), free=True)
            live, kinds, marks = Live(rule), {}, {}
            for word in "abcde":
                kinds[word] = draw.choice(rule.kinds())
                marks[word] = {measure: draw.randint(0, 2) for measure in rule.measures()}
                live.put(word, kinds[word], marks[word], [draw.randint(0, 3) for _ in range(6)])
            whole = {word: live[word] for word in "abcde"}
            for _ in range(20):
                word, base = draw.sample("abcde", 2)
                forms = live.forms()
                told = rule.lets_by(kinds[word], marks[word], kinds[base], marks[base])
                let = told and limits_let(limits_of(rule), forms, word, base)
                self.assertEqual(told_by(lambda: live.pack(word, base)), None if let else (BadBase, base))
                self.assertEqual(live.forms(), {**forms, word: base} if let else forms)
                self.assertEqual({word: live[word] for word in "abcde"}, whole)
                self.assertLessEqual(live.depth(word) + height_of(live.forms(), word), rule.tall or 9)


if __name__ == "__main__":
    unittest.main()
