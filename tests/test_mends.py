"""[1] (g), [2], [22] and the interface of packedbases/mends.py."""

import functools
import inspect
import itertools
import random
import unittest

from packedbases.chains import longest
from packedbases.errors import BadArgument, BadChange, BadNumber, BadWish
from packedbases.mends import Mend, greatest_limits, widest
from packedbases.rings import closes, least_ring
from packedbases.rules import Rule
from packedbases.walks import good_walk
from samples import ANY, LESS, MORE, SIGNS, Angry, Nasty, odd_values, one_measure, random_rule, round_rule

FREELY = Rule(["k"], {"m": True}, [ANY])
BOTH = one_measure(["less", "more"])
KINDS = ["a", "b", "c", "d", "e"]
NO_PACKERS = [0, -1, 10, 10 ** 30, True, False, None, 1.0, "1", [1], (1,), {}, {1: 1}, ([],), object(), Nasty()]
NO_REPAIRS = [("strike",), ("strike", LESS, 1), ("strike", ("k", "k", ("same",))), ("strike", ("k", "k", ["less"])),
              ("strike", None), ("strike", Nasty()), ("strike", Angry()), ["strike", LESS], ("strike", list(LESS)),
              ("deep",), ("deep", -1), ("deep", 10), ("deep", True), ("deep", None), ("deep", 1.0), ("deep", "1"),
              ("deep", [1]), ("deep", 1, 1), ("deep", Nasty()), ("tall", 0), ("tall", 10), ("tall", False), ("tall", None),
              ("tall", 1, 2), ("tall", ([],)), ("tall",), ("free", True), ("free", False), ("free", None), "free", ["free"],
              ("Free",), ("ringless", 1), ("keeps", LESS), ("none",), ("add", LESS), ("",), (), (None,), (["free"],), ({},),
              (Nasty(),), (Angry(), 1), Nasty(), Angry(), None, 1]
NO_WISHES = [("ringless",), ("ringless", 0), ("ringless", 10), ("ringless", True), ("ringless", None), ("ringless", 1, 1),
             ("ringless", [1]), ("ringless", 1.0), ["ringless", 1], ("short", 1), ("short", 0, 1), ("short", 10, 1),
             ("short", True, 1), ("short", 1, -1), ("short", 1, True), ("short", 1, False), ("short", 1, None),
             ("short", 1, 1.0), ("short", 1, [1]), ("short", 1, 1, 1), ("long", 1, 1), ("Short", 1, 1), ("short", Nasty(), 1), ("short", 1, Nasty()),
             ("keeps",), ("keeps", ("k", "k", ("same",))), ("keeps", LESS, 1), ("keeps", None), ("keeps", list(LESS)),
             ("keeps", ("k", "k", ["less"])), ("keeps", Nasty()), ("keeps", Angry()), ("strike", LESS), ("free",), (),
             (None, 1), ("", 1), (["keeps"], LESS), ({}, 1), (Nasty(), 1), (Angry(), Angry()), Nasty(), None, "ringless", 1]
NO_SETS = [[], [0], [0, 1], (1, 0), (0, 0), (0, 1, 1), (True,), (0, True), (False,), (False, 1), (3,), (-1,), (0, 3),
           (0, -1), (None,), (0.0,), ("0",), ([0],), ((0,),), {}, {0: 1}, {0}, 0, None, "", "0", "01", range(2), iter([0]),
           (Nasty(),), (0, Angry()), Nasty(), Angry(), 10 ** 30, (10 ** 30,), (0, 1, 2, 3), b"", b"0"]


def mended(rule, menu, picks):
    """[22], word for word."""
    ways = rule.ways()
    deep, tall, free = rule.deep, rule.tall, rule.free
    for repair in [menu[at] for at in picks]:
        if repair[0] == "strike":
            ways = [way for way in ways if way != repair[1]]
        elif repair[0] == "deep":
            deep = repair[1] if deep is None or repair[1] < deep else deep
        elif repair[0] == "tall":
            tall = repair[1] if tall is None or repair[1] < tall else tall
        else:
            free = True
    stays = {measure: rule.stays(measure) for measure in rule.measures()}
    return Rule(rule.kinds(), stays, ways, deep=deep, tall=tall, free=free) if ways else None


def is_met(rule, wish):
    if wish[0] == "ringless":
        return not closes(rule, wish[1])
    if wish[0] == "short":
        return longest(rule, wish[1]) is not None and longest(rule, wish[1]) <= wish[2]
    return wish[1] in rule.ways()


def all_sets(many):
    return [picks for size in range(many + 1) for picks in itertools.combinations(range(many), size)]


def random_mend(seed, most_repairs=5):
    draw = random.Random(seed)
    rule = random_rule(seed, kinds=3, measures=2, ways=5).limited(
        deep=draw.choice([None, None, 4, 9]), tall=draw.choice([None, None, 3, 8]), free=draw.random() < 0.2)
    makers = [lambda: ("strike", draw.choice(rule.ways())), lambda: ("strike", draw.choice(rule.ways())),
              lambda: ("deep", draw.randint(0, 9)), lambda: ("tall", draw.randint(1, 9)), lambda: ("free",)]
    menu = [draw.choice(makers)() for _ in range(draw.randint(0, most_repairs))]
    wishers = [lambda: ("ringless", draw.randint(1, 4)), lambda: ("short", draw.randint(1, 2), draw.randint(0, 4)),
               lambda: ("keeps", draw.choice(rule.ways()))]
    return rule, menu, [draw.choice(wishers)() for _ in range(draw.randint(0, 3))]


class Case(unittest.TestCase):
    def refused(self, kind, value, act, *parts, **named):
        with self.assertRaises(kind) as caught:
            act(*parts, **named)
        self.assertIs(type(caught.exception), kind)
        self.assertIs(caught.exception.value, value)


class MendTest(Case):
    def check(self, rule, menu, wishes):
        """Held against all sets; returns how many are good."""
        mend = Mend(rule, menu, wishes)
        self.assertEqual(len(mend), len(menu))
        good = []
        for picks in all_sets(len(menu)):
            wanted = mended(rule, menu, picks)
            told = mend.behind(picks)
            self.assertEqual(told, wanted)
            self.assertIs(told is None, wanted is None)
            unmet = [at for at, wish in enumerate(wishes) if wanted is None or not is_met(wanted, wish)]
            self.assertEqual(mend.unmet(picks=picks), unmet)
            if wanted is not None and not unmet:
                good.append(picks)
        self.assertEqual(list(mend.good()), good)
        self.assertEqual(mend.least(), [picks for picks in good if not any(set(part) < set(picks) for part in good)])
        return len(good)

    def test_many_mends_held_against_all_sets(self):
        told = {}
        for seed in range(500):
            rule, menu, wishes = random_mend(seed)
            many = min(self.check(rule, menu, wishes), 3)
            told[many] = told.get(many, 0) + 1
        self.assertGreater(min(told.get(many, 0) for many in range(4)), 20, told)

    def test_a_small_one(self):
        mend = Mend(BOTH, [("strike", LESS), ("deep", 0), ("tall", 2), ("free",)], [("ringless", 1), ("keeps", LESS)])
        self.assertEqual(list(mend.good())[:4], [(1,), (2,), (3,), (1, 2)])
        self.assertEqual(mend.least(), [(1,), (2,), (3,)])
        self.assertEqual(mend.unmet(()), [0])
        self.assertEqual(mend.unmet((0,)), [1])
        self.assertEqual(mend.behind((1, 2, 3)), BOTH.limited(deep=0, tall=2, free=True))
        self.assertEqual(mend.behind(picks=(0,)), one_measure(["more"]))

    def test_keywords(self):
        mend = Mend(wishes=[("ringless", 9)], menu=[("strike", LESS)], rule=BOTH)
        self.assertEqual((mend.least(), mend.unmet(()), len(mend)), ([(0,)], [0], 1))

    def test_empty_menus_and_empty_wishes(self):
        self.assertEqual(self.check(BOTH, [], []), 1)
        self.assertEqual(self.check(BOTH, [], [("ringless", 1)]), 0)
        self.assertEqual(self.check(BOTH, [("free",), ("deep", 3)], []), 4)
        mend = Mend(BOTH, [], [])
        self.assertEqual((list(mend.good()), mend.least(), len(mend), mend.unmet(())), ([()], [()], 0, []))
        self.assertEqual(mend.behind(()), BOTH)

    def test_sets_that_leave_no_way(self):
        menu = [("strike", LESS), ("strike", MORE), ("free",)]
        wishes = [("ringless", 3), ("short", 1, 0), ("keeps", LESS)]
        mend = Mend(BOTH, menu, wishes)
        for picks in ((0, 1), (0, 1, 2)):
            self.assertIsNone(mend.behind(picks))
            self.assertEqual(mend.unmet(picks), [0, 1, 2])
        self.assertEqual(list(Mend(BOTH, menu, []).good()), [(), (0,), (1,), (2,), (0, 2), (1, 2)])
        self.assertEqual(Mend(BOTH, menu, []).unmet((0, 1)), [])
        self.check(BOTH, menu, wishes)
        self.check(FREELY, [("strike", ANY)], [])

    def test_repairs_that_come_twice(self):
        menu = [("strike", LESS), ("strike", LESS), ("deep", 2), ("deep", 2), ("free",), ("free",)]
        self.check(BOTH, menu, [("ringless", 1)])
        mend = Mend(BOTH, menu, [("ringless", 1)])
        self.assertEqual(mend.least(), [(0,), (1,), (4,), (5,)])
        self.assertEqual(mend.behind((0, 1)), one_measure(["more"]))

    def test_a_limit_that_a_repair_would_raise_stays(self):
        rule = FREELY.limited(deep=3, tall=4)
        mend = Mend(rule, [("deep", 9), ("tall", 9), ("deep", 3), ("deep", 0), ("tall", 1), ("tall", 5)], [])
        for picks in ((), (0,), (1,), (2,), (0, 1, 2, 5)):
            self.assertEqual(mend.behind(picks), rule)
        self.assertEqual(mend.behind((0, 3)), FREELY.limited(deep=0, tall=4))
        self.assertEqual(mend.behind((0, 2, 3, 4)), FREELY.limited(deep=0, tall=1))
        self.assertEqual(mend.behind((4, 5)), FREELY.limited(deep=3, tall=1))
        self.assertEqual(Mend(FREELY, [("deep", 9), ("tall", 9)], []).behind((0, 1)), FREELY.limited(deep=9, tall=9))
        free = FREELY.limited(free=True)
        self.assertEqual(Mend(free, [("deep", 1)], []).behind((0,)), FREELY.limited(deep=1, free=True))
        self.assertIs(Mend(FREELY, [("deep", 0)], []).behind((0,)).free, False)
        for deep, tall in itertools.product([None, 0, 5, 9], [None, 1, 5, 9]):
            for low, lower in itertools.product([0, 4, 5, 6, 9], [1, 4, 5, 6, 9]):
                self.check(FREELY.limited(deep=deep, tall=tall), [("deep", low), ("tall", lower)], [])

    def test_eight_repairs_and_nine_six_wishes_and_seven(self):
        rule = one_measure(SIGNS)
        menu = [("strike", way) for way in rule.ways()] + [("deep", 1), ("tall", 3)]
        wishes = [("ringless", 1), ("ringless", 2), ("short", 1, 3), ("short", 1, 0), ("keeps", LESS), ("keeps", LESS)]
        self.check(rule, menu, wishes[:5])
        self.check(rule, menu, [("ringless", 1), ("short", 1, 10 ** 30), ("keeps", MORE)] * 2)
        self.assertEqual((len(Mend(rule, menu, wishes)), len(list(Mend(rule, menu, []).good()))), (8, 252))
        nine, seven = menu + [("free",)], wishes + [("ringless", 9)]
        self.refused(BadChange, nine, Mend, rule, nine, seven)
        self.refused(BadWish, seven, Mend, rule, menu, seven)

    def test_each_wish(self):
        line = Rule(["a", "b", "c"], {"m": True}, [("a", "b", ("any",)), ("b", "c", ("any",))])
        for most in range(5):
            wishes = [("short", packers, most) for packers in (1, 2, 9)]
            self.assertEqual(Mend(line, [], wishes).unmet(()), [] if most >= 2 else [0, 1, 2])
            self.assertEqual(Mend(FREELY, [], wishes).unmet(()), [0, 1, 2])
            self.assertEqual(Mend(FREELY.limited(tall=2), [], wishes).unmet(()), [1, 2] if most >= 2 else [0, 1, 2])
        for packers in range(1, 10):
            self.assertEqual(Mend(FREELY.limited(tall=1), [], [("ringless", packers)]).unmet(()),
                             [] if packers == 1 else [0])
            self.assertEqual(Mend(line, [], [("ringless", packers)]).unmet(()), [])
        self.assertEqual(Mend(line, [("strike", line.ways()[1])], [("keeps", way) for way in line.ways()]).unmet((0,)), [1])
        self.assertEqual(Mend(BOTH, [("strike", LESS)], [("ringless", 1), ("ringless", 1)]).unmet(()), [0, 1])

    def test_good_asked_twice_and_stopped_amid(self):
        mend = Mend(BOTH, [("strike", LESS), ("deep", 0), ("free",)], [("ringless", 1)])
        wanted = [(0,), (1,), (2,), (0, 1), (0, 2), (1, 2), (0, 1, 2)]
        first = mend.good()
        self.assertTrue(inspect.isgenerator(first))
        self.assertEqual([next(first), next(first)], wanted[:2])
        self.assertEqual(list(mend.good()), wanted)
        self.assertEqual(list(first), wanted[2:])
        self.assertEqual(list(first), [])
        self.assertEqual({type(picks) for picks in mend.good()}, {tuple})
        self.assertEqual(mend.least(), mend.least())

    def test_lists_belong_to_the_caller(self):
        menu, wishes = [("strike", LESS), ("free",)], [("ringless", 1)]
        mend = Mend(BOTH, menu, wishes)
        menu.clear()
        wishes.clear()
        self.assertEqual((len(mend), mend.unmet(()), mend.least()), (2, [0], [(0,), (1,)]))
        mend.least().clear()
        mend.unmet(()).clear()
        self.assertEqual((mend.unmet(()), mend.least()), ([0], [(0,), (1,)]))

    def test_wrong_menus(self):
        for repair in NO_REPAIRS:
            for menu in ([repair], [("free",), repair], [repair, ("strike", LESS)]):
                self.refused(BadChange, menu, Mend, BOTH, menu, menu)
                self.refused(BadChange, menu, Mend, rule=BOTH, wishes=[], menu=menu)
        for value in odd_values() + [(("free",),), ("free",), "free", {("free",): 1}]:
            if not (isinstance(value, list) and len(value) == 0):
                self.refused(BadChange, value, Mend, BOTH, value, value)
                self.refused(BadChange, value, Mend, BOTH, value, [])

    def test_wrong_wishes(self):
        for wish in NO_WISHES:
            for wishes in ([wish], [("ringless", 1), wish], [wish, ("keeps", LESS)]):
                self.refused(BadWish, wishes, Mend, BOTH, [("free",)], wishes)
        for value in odd_values() + [(("ringless", 1),), ("ringless", 1), "ringless", {("ringless", 1): 1}]:
            if not (isinstance(value, list) and len(value) == 0):
                self.refused(BadWish, value, Mend, BOTH, [("free",)], value)
                self.refused(BadWish, value, Mend, wishes=value, menu=[], rule=BOTH)
        wide = Rule(["k", "l"], {"m": True, "n": False}, [("k", "l", ("less", "any"))])
        self.assertEqual(Mend(wide, [], [("keeps", ("k", "l", ("less", "any")))]).unmet(()), [])
        for way in (LESS, ("k", "l", ("any", "less")), ("l", "k", ("less", "any"))):
            for menu, wishes, kind in (([("strike", way)], [], BadChange), ([], [("keeps", way)], BadWish)):
                self.refused(kind, menu or wishes, Mend, wide, menu, wishes)

    def test_wrong_rules(self):
        for value in odd_values():
            self.refused(BadArgument, value, Mend, value, value, value)
            self.refused(BadArgument, value, Mend, value, [], [])

    def test_no_sets(self):
        mend = Mend(BOTH, [("deep", 0), ("free",)], [])
        for picks in NO_SETS + [value for value in odd_values() if not (isinstance(value, tuple) and len(value) == 0)]:
            self.refused(BadChange, picks, mend.behind, picks)
            self.refused(BadChange, picks, mend.unmet, picks)
            self.refused(BadChange, picks, mend.behind, picks=picks)
        self.assertEqual(mend.behind((0, 1)), BOTH.limited(deep=0, free=True))
        empty = Mend(BOTH, [], [])
        for picks in ((0,), [], (True,), (-1,)):
            self.refused(BadChange, picks, empty.behind, picks)


DEEPS = [None, *range(10)]
TALLS = [None, *range(1, 10)]
LIMITS = list(itertools.product(DEEPS, TALLS, [False, True]))


def is_wider(one, other):
    """Whether limits are wider in something and narrower in nothing, as [22] calls it."""
    def wide(limit):
        return 99 if limit is None else limit
    parts = [(wide(one[0]), wide(other[0])), (wide(one[1]), wide(other[1])), (not one[2], not other[2])]
    return all(here >= there for here, there in parts) and any(here > there for here, there in parts)


@functools.lru_cache(maxsize=None)
def limits_for(many, packers):
    """The greatest limits for a rule of which the shortest good walk has so many ways, by [8]."""
    def lets(limits):
        deep, tall, free = limits
        if packers == 1:
            return not free and (deep is None or many <= deep + 1) and (tall is None or 2 * many - 1 <= tall)
        return packers > 2 or tall is None or many <= tall + 1
    safe = [limits for limits in LIMITS if many is None or not lets(limits)]
    return sorted([limits for limits in safe if not any(is_wider(other, limits) for other in safe)], key=str)


class GreatestLimitsTest(Case):
    def test_held_against_all_220(self):
        self.assertEqual(len(LIMITS), 220)
        for rule in (FREELY, BOTH, one_measure(["less"]), round_rule(6), round_rule(14), random_rule(3)):
            for packers in (1, 2, 3, 9):
                safe = [limits for limits in LIMITS
                        if not closes(rule.limited(deep=limits[0], tall=limits[1], free=limits[2]), packers)]
                wanted = sorted([limits for limits in safe if not any(is_wider(other, limits) for other in safe)], key=str)
                self.assertEqual(greatest_limits(rule, packers), wanted)

    def test_many_rules(self):
        told = {}
        # The last ones have shortest good walks of 6 to 11 ways.
        seeds = list(range(90)) + [219, 287, 142, 129, 306, 5013]
        for seed, packers in [(seed, seed % 9 + 1) for seed in seeds] + [(seed, 1 + seed % 2) for seed in seeds]:
            for rule in (random_rule(seed), round_rule(seed)):
                walk = good_walk(rule)
                many = None if walk is None else len(walk)
                self.assertEqual(greatest_limits(packers=packers, rule=rule), limits_for(many, min(packers, 3)))
                told[many] = told.get(many, 0) + 1
        self.assertEqual(set(told), {None, *range(2, 12)})

    def test_what_is_told(self):
        self.assertEqual(greatest_limits(FREELY, 1), [(0, None, False), (None, 2, False), (None, None, True)])
        self.assertEqual(greatest_limits(FREELY, 2), [])
        self.assertEqual(greatest_limits(FREELY, 3), [])
        self.assertEqual(greatest_limits(one_measure(["less"]), 9), [(None, None, False)])
        three = Rule(["a", "b", "c"], {"m": True}, [("a", "b", ("any",)), ("b", "c", ("any",)), ("c", "a", ("any",))])
        self.assertEqual(least_ring(three, 1), 3)
        self.assertEqual(greatest_limits(three, 1), [(1, None, False), (None, 4, False), (None, None, True)])
        self.assertEqual(greatest_limits(three, 2), [(None, 1, False)])
        self.assertEqual({type(part) for limits in greatest_limits(three, 1) for part in limits}, {int, bool, type(None)})

    def test_the_rules_own_limits_do_not_matter(self):
        for deep, tall, free in ((0, None, False), (None, 1, True), (9, 9, False)):
            self.assertEqual(greatest_limits(FREELY.limited(deep=deep, tall=tall, free=free), 1),
                             greatest_limits(FREELY, 1))

    def test_lists_belong_to_the_caller(self):
        greatest_limits(FREELY, 1).clear()
        self.assertEqual(len(greatest_limits(FREELY, 1)), 3)

    def test_wrong_values(self):
        for packers in NO_PACKERS:
            for rule in (FREELY, one_measure(["less"])):
                self.refused(BadNumber, packers, greatest_limits, rule, packers)
                self.refused(BadNumber, packers, widest, packers=packers, rule=rule)
        for value in odd_values():
            for act in (greatest_limits, widest):
                self.refused(BadArgument, value, act, value, value)
                self.refused(BadArgument, value, act, value, 1)


class WidestTest(Case):
    def check(self, rule, packers):
        """Held against all parts of the ways."""
        ways = rule.ways()
        stays = {measure: rule.stays(measure) for measure in rule.measures()}
        safe = []
        for size in range(len(ways), 0, -1):
            for part in itertools.combinations(ways, size):
                if not any(set(part) <= set(other) for other in safe):
                    limits = {"deep": rule.deep, "tall": rule.tall, "free": rule.free}
                    if not closes(Rule(rule.kinds(), stays, list(part), **limits), packers):
                        safe.append(part)
        wanted = sorted([list(part) for part in safe], key=str)
        told = widest(rule, packers)
        self.assertEqual(told, wanted)
        return len(told)

    def test_many_rules_held_against_all_parts(self):
        told = {}
        for seed in range(250):
            draw = random.Random(seed)
            rule = draw.choice([random_rule, round_rule])(seed)
            if len(rule) > 8:
                rule = rule - Rule(rule.kinds(), {m: rule.stays(m) for m in rule.measures()}, rule.ways()[8:])
            rule = rule.limited(deep=draw.choice([None, 1, 2, 3]), tall=draw.choice([None, 2, 3, 5]))
            many = min(self.check(rule, draw.choice([1, 1, 2, 3, 9])), 5)
            told[many] = told.get(many, 0) + 1
        self.assertGreater(min(told.get(many, 0) for many in (0, 1, 2, 3, 4, 5)), 3, told)

    def test_what_is_told(self):
        self.assertEqual(widest(one_measure(["less", "more", "same", "upto"]), 3), [[LESS], [MORE]])
        self.assertEqual(widest(FREELY, 3), [])
        self.assertEqual(widest(rule=FREELY.limited(deep=0), packers=1), [[ANY]])
        self.assertEqual(widest(FREELY.limited(deep=0), 2), [])
        two = Rule(["a", "b"], {"m": True}, [("b", "a", ("any",)), ("a", "b", ("any",)), ("a", "b", ("same",))])
        self.assertEqual(widest(two, 1), [[("a", "b", ("any",)), ("a", "b", ("same",))], [("b", "a", ("any",))]])
        self.assertEqual(widest(two.limited(tall=2), 1), [two.ways()])
        widest(two, 1)[0].clear()
        self.assertEqual(len(widest(two, 1)[0]), 2)

    def test_twelve_ways_five_kinds_and_three_measures(self):
        pairs = [(kind, KINDS[at - 1]) for at, kind in enumerate(KINDS)]
        ways = [(kind, base, ("any", "same", sign)) for kind, base in pairs for sign in ("any", "less")]
        rule = Rule(KINDS, {"x": True, "y": True, "z": False}, ways + [("a", "a", ("less", "any", "any")),
                                                                       ("a", "a", ("more", "any", "any"))])
        told = widest(rule, 9)
        # A walk round all five kinds is good by either way of each pair, and one by both loops is.
        loops = [way for way in rule.ways() if way[:2] == ("a", "a")]
        wanted = [sorted([way for way in rule.ways() if way[:2] not in (pair, ("a", "a"))] + [loop], key=str)
                  for pair in pairs for loop in loops]
        self.assertEqual(told, sorted(wanted, key=str))
        least = rule.limited(tall=1)
        self.assertEqual(len(widest(least, 1)), 1)
        for packers in (1, 2, 3):
            self.assertEqual(widest(rule.limited(free=True), packers), [rule.ways()] if packers == 1 else told)


if __name__ == "__main__":
    unittest.main()
