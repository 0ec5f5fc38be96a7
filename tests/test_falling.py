"""[1] (b), [2], [9], [10] and the interface of packedbases/falling.py."""

import itertools
import random
import unittest

from packedbases.errors import BadArgument, BadKind, BadMarks, BadPaper
from packedbases.falling import falling, is_paper, paper_of
from packedbases.rules import Rule
from packedbases.walks import good_walk
from samples import SIGNS, Angry, Nasty, odd_values, one_measure, random_rule, round_rule, sign_is_met, sparse_rule

OLDER = one_measure(["less"])
ROW = ({"k": 0}, {"k": ("m", "less")})

# Two rounds, each falling by another measure, and a way from the one to the other.
WIDE = Rule(["a", "b", "c", "d"], {"x": True, "y": True, "z": False},
            [("a", "b", ("less", "any", "any")), ("b", "a", ("upto", "more", "any")),
             ("c", "c", ("any", "more", "less")), ("b", "c", ("more", "less", "more")),
             ("c", "d", ("same", "same", "same"))])
WIDE_ORDERS = {"a": 3, "b": 3, "c": -7, "d": -10 ** 30}
WIDE_PICKS = {"a": ("x", "less"), "b": ("x", "less"), "c": ("y", "more"), "d": None}
SECOND_ROW = ({"a": 1, "b": 0, "c": 0, "d": 0}, {"a": None, "b": None, "c": None, "d": ("y", "less")})
REVERSED_ROW = ({"a": 0, "b": 1, "c": 0, "d": 0}, {"a": None, "b": None, "c": None, "d": None})
WIDE_PAPER = [(WIDE_ORDERS, WIDE_PICKS), REVERSED_ROW]


def goes_and_strikes(rule, row, way):
    """What [9] says of a row at one way: whether it goes with it, and whether it strikes it."""
    orders, picks = row
    kind, base, signs = way
    sign = dict(zip(rule.measures(), signs))[picks[kind][0]] if picks[kind] else None
    less = orders[base] < orders[kind]
    same = orders[base] == orders[kind] and picks[base] == picks[kind]
    along = {"less": {"less": 2, "same": 1, "upto": 1}, "more": {"more": 2, "same": 1, "from": 1}}
    fall = along[picks[kind][1]].get(sign, 0) if picks[kind] else 1
    return less or (same and fall > 0), less or (same and fall == 2)


def paper_is_right(rule, paper):
    """Whether rows of the right form are a paper, word for word."""
    left = rule.ways()
    for row in paper:
        told = [goes_and_strikes(rule, row, way) for way in left]
        if not all(goes for goes, _ in told):
            return False
        left = [way for way, (_, strikes) in zip(left, told) if not strikes]
    return not left


def random_row(draw, rule):
    """A row of the right form."""
    staying = [measure for measure in rule.measures() if rule.stays(measure)]
    picks = [None] + list(itertools.product(staying, ["less", "more"]))
    return ({kind: draw.randint(0, 2) for kind in rule.kinds()},
            {kind: draw.choice(picks[:3]) for kind in rule.kinds()})


class IsPaperTest(unittest.TestCase):
    def test_the_example_of_the_document(self):
        rule = Rule(["k"], {"age": True}, [("k", "k", ("any",))], deep=0, tall=2)
        older = Rule(["k"], {"age": True}, [("k", "k", ("less",))])
        paper = [({"k": 0}, {"k": ("age", "less")})]
        self.assertEqual((is_paper(older, paper), is_paper(rule, paper), falling(older, paper, "k", {"age": 7})),
                         (True, False, [0, 7]))

    def test_lists_and_tuples_of_rows(self):
        for paper in ([ROW], (ROW,), [ROW, ROW], [ROW, ({"k": 5}, {"k": None})]):
            self.assertIs(is_paper(OLDER, paper), True)
        self.assertIs(is_paper(WIDE, WIDE_PAPER), True)
        self.assertIs(is_paper(WIDE, tuple(WIDE_PAPER)), True)

    def test_no_way_may_be_left(self):
        self.assertIs(is_paper(OLDER, []), False)
        self.assertIs(is_paper(OLDER, ()), False)
        self.assertIs(is_paper(OLDER, [({"k": 3}, {"k": None})]), False)
        self.assertIs(is_paper(OLDER, [({"k": 3}, {"k": None}), ROW]), True)
        self.assertIs(is_paper(WIDE, WIDE_PAPER[:1]), False)

    def test_rows_must_go_with_the_ways_that_are_left_only(self):
        self.assertIs(is_paper(WIDE, WIDE_PAPER[::-1]), False)
        self.assertIs(is_paper(WIDE, WIDE_PAPER + [SECOND_ROW, SECOND_ROW]), True)
        self.assertIs(is_paper(WIDE, WIDE_PAPER[:1] + [SECOND_ROW] + WIDE_PAPER[1:]), False)

    def test_each_sign_with_each_sense(self):
        goes = {"less": ["less", "upto", "same"], "more": ["more", "from", "same"]}
        for sign, sense in itertools.product(SIGNS, ["less", "more"]):
            rule = Rule(["k", "l"], {"m": True, "n": True}, [("k", "k", (sign, "less")), ("l", "k", ("any", "any"))])
            first = ({"k": 0, "l": 1}, {"k": ("m", sense), "l": None})
            second = ({"k": 0, "l": 1}, {"k": ("n", "less"), "l": None})
            self.assertIs(is_paper(rule, [first]), sign == sense)
            self.assertIs(is_paper(rule, [first, second]), sign in goes[sense], (sign, sense))

    def test_orders(self):
        rule = Rule(["k", "l"], {"m": True}, [("k", "l", ("less",))])
        for order, base_order in itertools.product([-10 ** 50, -1, 0, 1, 10 ** 50], repeat=2):
            row = ({"k": order, "l": base_order}, {"k": None, "l": ("m", "less")})
            self.assertIs(is_paper(rule, [row]), base_order < order)
            row = ({"k": order, "l": base_order}, {"k": ("m", "less"), "l": ("m", "less")})
            self.assertIs(is_paper(rule, [row]), base_order <= order)

    def test_picks_of_both_kinds_must_be_the_same(self):
        rule = Rule(["k", "l"], {"m": True, "n": True}, [("k", "l", ("less", "less"))])
        picks = [None] + list(itertools.product(["m", "n"], ["less", "more"]))
        for pick, base_pick in itertools.product(picks, picks):
            row = ({"k": 0, "l": 0}, {"k": pick, "l": base_pick})
            self.assertIs(is_paper(rule, [row]), pick == base_pick and pick in [("m", "less"), ("n", "less")])

    def test_rows_of_a_wrong_form(self):
        rule = Rule(["k", "l"], {"m": True, "n": False}, [("k", "l", ("less", "any"))])
        orders, picks = {"k": 1, "l": 0}, {"k": None, "l": ("m", "less")}
        self.assertIs(is_paper(rule, [(orders, picks)]), True)
        wrong_orders = [{}, {"k": 1}, {"k": 1, "l": 0, "m": 0}, {"k": True, "l": 0}, {"k": 1, "l": False},
                        {"k": 1, "l": None}, {"k": 1.0, "l": 0}, {"k": "1", "l": 0}, {"k": 1, 0: 0}, [("k", 1)],
                        {"k": Nasty(), "l": 0}, ["k", "l"], {"k", "l"}, None, 1]
        wrong_picks = [{}, {"k": None}, {"k": None, "l": None, "m": None}, None, [None, None], {"k", "l"}]
        wrong_picks += [{"k": None, "l": pick} for pick in
                        [("n", "less"), ("o", "less"), ("k", "less"), ("m", "upto"), ("m", "same"), ("m", "any"),
                         ["m", "less"], ("m",), ("m", "less", 1), "m", "ml", False, 0, (), [], {}, (["m"], "less"),
                         ("m", ["less"]), ("less", "m"), (None, "less"), ("m", None), Nasty(), (Nasty(), Nasty()),
                         (Angry(), Angry()), ({}, {})]]
        rows = [(wrong, picks) for wrong in wrong_orders] + [(orders, wrong) for wrong in wrong_picks]
        rows += [[orders, picks], (orders,), (orders, picks, 1), (picks, orders), {}, None, "kl"]
        for row in rows:
            self.assertIs(is_paper(rule, [row]), False, row)
            self.assertIs(is_paper(rule, ((orders, picks), row)), False, row)
        self.assertIs(is_paper(rule, (orders, picks)), False)

    def test_any_value(self):
        for value in odd_values() + [{0: ROW}, iter([ROW]), "row", [ROW[0], ROW[1]]]:
            self.assertIs(is_paper(OLDER, value), False)
            self.assertIs(is_paper(OLDER, [ROW, value]), False)
            self.assertIs(is_paper(OLDER, [(value, ROW[1])]), False)
            if value is not None:
                self.assertIs(is_paper(OLDER, [(ROW[0], {"k": value})]), False)
            if type(value) is not int:
                self.assertIs(is_paper(OLDER, [({"k": value}, ROW[1])]), False)

    def test_papers_of_any_author(self):
        right = 0
        for seed in range(4000):
            draw = random.Random(seed)
            rule = sparse_rule(seed, ways=3)
            paper = [random_row(draw, rule) for _ in range(draw.randint(1, 3))]
            wanted = paper_is_right(rule, paper)
            right += wanted
            self.assertIs(is_paper(rule, paper), wanted, (rule.ways(), paper))
            if wanted:
                self.assertIsNone(good_walk(rule))
        self.assertGreater(right, 200)

    def test_only_rules(self):
        for value in odd_values():
            for act in (lambda: is_paper(value, value), lambda: paper_of(value),
                        lambda: falling(value, value, value, value)):
                with self.assertRaises(BadArgument) as caught:
                    act()
                self.assertIs(caught.exception.value, value)


class PaperOfTest(unittest.TestCase):
    def test_a_paper_just_if_there_is_no_good_closed_walk(self):
        none = 0
        for seed in range(3000):
            rule = (sparse_rule, random_rule, round_rule, round_rule)[seed % 4](seed)
            paper = paper_of(rule)
            self.assertEqual(paper is None, good_walk(rule) is not None)
            if paper is None:
                none += 1
            else:
                self.assertIs(type(paper), list)
                self.assertIs(is_paper(rule, paper), True)
                self.assertTrue(paper_is_right(rule, paper))
                self.assertTrue(all(abs(order) < 10 ** 40 for orders, _ in paper for order in orders.values()))
                self.assertTrue(all(list(part) == rule.kinds() for row in paper for part in row))
        self.assertTrue(300 < none < 2700, none)

    def test_small_rules(self):
        self.assertTrue(is_paper(OLDER, paper_of(OLDER)))
        self.assertTrue(is_paper(one_measure(["more"]), paper_of(one_measure(["more"]))))
        for signs in (["less", "more"], ["any"], ["same"], ["upto"], ["from"], ["less", "from"], ["less", "upto"]):
            self.assertIsNone(paper_of(one_measure(signs)), signs)
        self.assertIsNone(paper_of(one_measure(["less"], stays=False)))
        for first, second in itertools.product(SIGNS, SIGNS):
            there_and_back = Rule(["k", "l"], {"m": True}, [("k", "l", (first,)), ("l", "k", (second,))])
            falls = {first, second} in ({"less"}, {"less", "upto"}, {"less", "same"}, {"more"}, {"more", "from"},
                                        {"more", "same"})
            self.assertEqual(paper_of(there_and_back) is not None, falls, (first, second))

    def test_rows_that_are_needed_one_behind_the_other(self):
        rule = Rule(["k"], {"a": True, "b": True, "c": True},
                    [("k", "k", ("less", "any", "any")), ("k", "k", ("upto", "more", "any")),
                     ("k", "k", ("same", "from", "less"))])
        paper = paper_of(rule)
        self.assertEqual(len(paper), 3)
        self.assertEqual([picks["k"] for _, picks in paper], [("a", "less"), ("b", "more"), ("c", "less")])
        for order in itertools.permutations(range(3)):
            self.assertIs(is_paper(rule, [paper[at] for at in order]), order == (0, 1, 2))

    def test_limits_do_not_matter(self):
        limits = {"deep": 0, "tall": 1, "free": True}
        self.assertEqual(paper_of(WIDE), paper_of(WIDE.limited(**limits)))
        self.assertIs(is_paper(WIDE.limited(**limits), WIDE_PAPER), True)
        self.assertIsNone(paper_of(one_measure(["any"]).limited(**limits)))

    def test_the_same_for_equal_rules(self):
        for seed in range(200):
            rule = sparse_rule(seed)
            stays = {measure: rule.stays(measure) for measure in rule.measures()[::-1]}
            turned = Rule(rule.kinds()[::-1], stays, rule.ways()[::-1])
            self.assertEqual(rule, turned)
            self.assertEqual(repr(paper_of(rule)), repr(paper_of(turned)))

    def test_a_paper_belongs_to_the_caller(self):
        before = repr(paper_of(WIDE))
        paper = paper_of(WIDE)
        for orders, picks in paper:
            orders["a"] = 99
            picks.clear()
        paper.clear()
        self.assertEqual(repr(paper_of(WIDE)), before)


class FallingTest(unittest.TestCase):
    def test_the_list(self):
        marks = {"z": 5, "y": -6, "x": 10 ** 40}
        told = {kind: falling(WIDE, WIDE_PAPER, kind, marks) for kind in "abcd"}
        self.assertEqual(told, {"a": [3, 10 ** 40, 0, 0], "b": [3, 10 ** 40, 1, 0], "c": [-7, 6, 0, 0],
                                "d": [-10 ** 30, 0, 0, 0]})
        self.assertEqual(falling(WIDE, tuple(WIDE_PAPER), "c", marks), told["c"])
        told["a"].clear()
        self.assertEqual(len(falling(WIDE, WIDE_PAPER, "a", marks)), 4)

    def test_measures_that_move_do_not_matter(self):
        one = falling(WIDE, WIDE_PAPER, "a", {"x": 1, "y": 2, "z": 3})
        self.assertEqual(one, falling(WIDE, WIDE_PAPER, "a", {"x": 1, "y": 2, "z": -3}))

    def compare(self, rule, paper, draw):
        """Numbers of things and bases that stand in all ways to one another; how many are let by."""
        great = draw.choice([0, 1, -1, 10 ** 30, -10 ** 30])
        let = 0
        for kind, base_kind in itertools.product(rule.kinds(), rule.kinds()):
            marks = {measure: great + draw.randint(-2, 2) for measure in rule.measures()}
            for steps in itertools.product([-1, 0, 10 ** 20], repeat=len(marks)):
                base_marks = {measure: marks[measure] + step for measure, step in zip(marks, steps)}
                if rule.lets_by(kind, marks, base_kind, base_marks):
                    let += 1
                    self.assertLess(falling(rule, paper, base_kind, base_marks),
                                    falling(rule, paper, kind, marks))
        return let

    def test_lists_fall_along_every_base(self):
        let = 0
        for seed in range(2000):
            rule = sparse_rule(seed)
            paper = paper_of(rule)
            if paper is not None:
                let += self.compare(rule, paper, random.Random(seed))
        self.assertGreater(let, 3000)
        self.assertGreater(self.compare(WIDE, WIDE_PAPER, random.Random(1)), 10)

    def test_lists_fall_for_papers_of_any_author(self):
        let = 0
        for seed in range(3000):
            draw = random.Random(seed)
            rule = sparse_rule(seed, ways=3)
            paper = tuple(random_row(draw, rule) for _ in range(2))
            if is_paper(rule, paper):
                let += self.compare(rule, paper, draw)
        self.assertGreater(let, 500)

    def test_one_paper_for_several_rules(self):
        less = Rule(["k"], {"m": True, "n": True}, [("k", "k", ("less", "any"))])
        both = Rule(["k"], {"m": True, "n": True}, [("k", "k", ("same", "less"))])
        paper = paper_of(less | both)
        for rule in (less, both, less | both):
            self.assertIs(is_paper(rule, paper), True)

    def wrong(self, error, rule, paper, kind, marks):
        with self.assertRaises(error) as caught:
            falling(rule, paper, kind, marks)
        return caught.exception.value

    def test_wrong_papers_come_first(self):
        for value in odd_values() + [[], [({"k": 0}, {"k": None})], WIDE_PAPER]:
            self.assertIs(self.wrong(BadPaper, OLDER, value, "k", {"m": 1}), value)
            self.assertIs(self.wrong(BadPaper, OLDER, value, "x", None), value)
        rising = [({"k": 0}, {"k": ("m", "more")})]
        self.assertIs(self.wrong(BadPaper, OLDER, rising, "k", {"m": 1}), rising)
        self.assertEqual(self.wrong(BadPaper, one_measure(["any"]), [ROW], "k", {"m": 1}), [ROW])

    def test_wrong_kinds_come_second(self):
        for value in odd_values() + ["l", "m", "K", ["k"], ("k",), b"k"]:
            self.assertIs(self.wrong(BadKind, OLDER, [ROW], value, {"m": 1}), value)
            self.assertIs(self.wrong(BadKind, OLDER, [ROW], value, value), value)

    def test_wrong_marks(self):
        wrong = [{"m": True}, {"m": False}, {"m": None}, {"m": 1.0}, {"m": "1"}, {"m": [1]}, {"m": 1, "n": 1},
                 {"n": 1}, {0: 1}, {("m",): 1}, [("m", 1)], ["m"], (1,), {"m": Nasty()}]
        for value in wrong + odd_values():
            self.assertIs(self.wrong(BadMarks, OLDER, [ROW], "k", value), value)
        for marks in ({"x": 1, "y": 2}, {"x": 1, "y": 2, "z": True}, {"x": 1, "y": 2, "z": 3, "a": 4}):
            self.assertIs(self.wrong(BadMarks, WIDE, WIDE_PAPER, "d", marks), marks)

    def test_nothing_that_is_given_is_changed(self):
        paper, marks = [({"k": 0}, {"k": ("m", "less")})], {"m": -4}
        self.assertEqual(falling(OLDER, paper, "k", marks), [0, -4])
        self.assertEqual((paper, marks), ([ROW], {"m": -4}))


class RingTest(unittest.TestCase):
    def test_either_a_paper_or_a_ring_that_could_close(self):
        # For a rule of one kind and one measure all rings of four things are tried.
        for many in (1, 2, 3):
            for signs in itertools.combinations(SIGNS, many):
                rule = one_measure(signs)
                closes = any(all(any(sign_is_met(sign, ring[at - 1], ring[at]) for sign in signs) for at in range(4))
                             for ring in itertools.product(range(4), repeat=4))
                self.assertEqual(paper_of(rule) is None, closes, signs)


if __name__ == "__main__":
    unittest.main()
