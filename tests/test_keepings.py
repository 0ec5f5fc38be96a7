"""[2], [19], [20] and the interface of packedbases/keepings.py."""

import inspect
import itertools
import unittest

from keeping_model import ALL_STANDINGS, DROPS, LOOKS, START, lost, model_deeds
from packedbases.errors import BadArgument
from packedbases.keepings import Keeping, all_keepings, deeds_at
from samples import Angry, Nasty, odd_values

ALL = list(itertools.product(DROPS, ["new", "old"], [False, True]))
NO_STANDINGS = [
    ("whole", 1, True, True, False, None, None), ("whole", True, 1, True, False, None, None),
    ("whole", True, True, 1, False, None, None), ("whole", True, True, True, 0, None, None),
    ("whole", True, True, True, False, None, (0, 0)), ("whole", True, True, True, False, None, (True, 1)),
    ("whole", True, True, True, False, None, (0, False)), ("whole", True, True, True, False, None, [True, True]),
    ("whole", True, True, True, False, None, (True,)), ("whole", True, True, True, False, None, (True, True, True)),
    ("whole", True, True, True, False, None, ()), ("whole", True, True, True, False, None, False),
    ("whole", True, True, True, False, None, (None, None)), ("whole", True, True, True, False, "none", None),
    ("whole", True, True, True, False, "", None), ("whole", True, True, True, False, False, None),
    ("whole", True, True, True, False, ["whole"], None), ("whole", True, True, True, False, "new", None),
    ("gone", True, True, True, False, None, None), (None, True, True, True, False, None, None),
    (["whole"], True, True, True, False, None, None), ("Whole", True, True, True, False, None, None),
    ("whole", None, True, True, False, None, None), ("whole", True, "", True, False, None, None),
    ("whole", True, True, [], False, None, None), ("whole", True, True, True, None, None, None),
    ("whole", True, True, True, False, None), ("whole", True, True, True, False, None, None, None), (),
    ["whole", True, True, True, False, None, None], "whole", {"whole": True}, (START,), [START],
    (Nasty(), True, True, True, False, None, None), ("whole", Nasty(), True, True, False, None, None),
    ("whole", True, True, True, False, Nasty(), None), ("whole", True, True, True, False, None, Nasty()),
    (Angry(), True, True, True, False, None, None), ("whole", True, True, True, False, Angry(), None),
    ("whole", True, True, True, False, None, (Angry(), True)), ("whole", True, True, True, False, None, Angry())]


def at(keeping, *parts):
    """The deeds at a standing, a dict."""
    return dict(deeds_at(keeping, parts))


class Case(unittest.TestCase):
    def refused(self, value, act, *parts, **named):
        with self.assertRaises(BadArgument) as caught:
            act(*parts, **named)
        self.assertIs(type(caught.exception), BadArgument)
        self.assertIs(caught.exception.value, value)


class KeepingTest(Case):
    def test_attributes(self):
        for drop, order, stops in ALL:
            keeping = Keeping(stops=stops, order=order, drop=drop)
            self.assertEqual((keeping.dropping, keeping.order), (drop, order))
            self.assertIs(keeping.stops, stops)
            self.assertEqual(vars(keeping), vars(Keeping(drop, order, stops)))

    def test_equal_if_all_three_are(self):
        for one, other in itertools.product(ALL, ALL):
            self.assertIs(Keeping(*one) == Keeping(*other), one == other)
            self.assertIs(Keeping(*one) != Keeping(*other), one != other)
        for value in odd_values()[:10] + [("swept", "new", True), "swept"]:
            self.assertIs(Keeping("swept", "new", True) == value, False)

    def test_wrong_values_the_first_one_first(self):
        drops = odd_values() + ["", "Swept", "sweep", ["swept"], ("swept",), "unnamed ", "swept,looked"]
        for drop in drops:
            self.refused(drop, Keeping, drop, drop, drop)
            self.refused(drop, Keeping, drop, "new", False)
            self.refused(drop, Keeping, "swept", drop, drop)
            self.refused(drop, Keeping, order=drop, stops=True, drop="looked")
        for stops in odd_values() + [1, 0, "True", [True], (False,)]:
            if not isinstance(stops, bool):
                self.refused(stops, Keeping, "swept", "new", stops)
                self.refused(stops, Keeping, "unused", "old", stops)
        self.refused("new", Keeping, "new", "swept", True)
        for order in ("swept", "New", "older", "", ["new"], True):
            self.refused(order, Keeping, "unnamed", order, 1)

    def test_all_keepings_in_order(self):
        self.assertTrue(inspect.isgenerator(all_keepings()))
        self.assertEqual([(keeping.dropping, keeping.order, keeping.stops) for keeping in all_keepings()], ALL)
        self.assertEqual(len(ALL), 20)
        self.assertTrue(all(type(keeping) is Keeping for keeping in all_keepings()))
        first = all_keepings()
        next(first)
        self.assertEqual(next(all_keepings()), Keeping("unnamed", "new", False))
        self.assertEqual(next(first), Keeping("unnamed", "new", True))


class DeedsTest(Case):
    def test_all_standings_of_the_form_with_all_keepings(self):
        self.assertEqual(len(ALL_STANDINGS), 720)
        for parts in ALL:
            keeping = Keeping(*parts)
            for standing in ALL_STANDINGS:
                told = deeds_at(keeping, tuple(standing))
                wanted = model_deeds(*parts, standing)
                self.assertEqual([deed for deed, _ in told], sorted(wanted, key=str), (parts, standing))
                self.assertEqual(dict(told), wanted, (parts, standing))
                for deed, behind in told:
                    self.assertEqual(str(behind), str(tuple(wanted[deed])))

    def test_pairs_are_tuples_in_a_list_of_the_callers_own(self):
        told = deeds_at(standing=START, keeping=Keeping("swept", "old", True))
        self.assertEqual((type(told), {type(pair) for pair in told}), (list, {tuple}))
        self.assertEqual({type(part) for pair in told for part in pair}, {tuple})
        told.clear()
        self.assertEqual(deeds_at(Keeping("swept", "old", True), START), [
            (("ask",), ("whole", True, True, True, True, None, None)),
            (("look",), ("whole", True, True, True, False, None, (True, True))),
            (("unname", "base"), ("whole", True, True, False, False, None, None)),
            (("unname", "thing"), ("whole", True, False, True, False, None, None))])

    def test_nothing_is_done_once_the_thing_is_lost(self):
        many = 0
        for parts in ALL:
            for standing in filter(lost, ALL_STANDINGS):
                self.assertEqual(deeds_at(Keeping(*parts), tuple(standing)), [])
                many += 1
        # Named, and a change without its base, or none: nothing amid.
        self.assertEqual(many, 20 * (2 + 4) * 2 * 5)
        for parts in ALL:
            gone = ("none", False, False, False, False, None, None)
            self.assertEqual(deeds_at(Keeping(*parts), gone)[1:], [])

    def test_asking(self):
        keeping = Keeping("unnamed", "new", True)
        self.assertIn(("ask",), at(keeping, "change", True, True, True, False, None, None))
        for standing in (("none", True, False, True, False, None, None), ("whole", False, True, False, False, None, None),
                         ("whole", True, True, True, True, None, None), ("whole", True, True, True, False, "whole", None)):
            self.assertNotIn(("ask",), at(keeping, *standing))

    def test_writing_with_each_order(self):
        asked = ("whole", False, True, False, True, None, None)
        self.assertEqual(at(Keeping("unnamed", "new", False), *asked)[("write",)],
                         ("change", False, True, False, False, None, None))
        self.assertEqual(at(Keeping("unnamed", "old", False), *asked)[("write",)],
                         ("none", False, True, False, False, "change", None))
        amid = ("none", True, True, True, True, "change", None)
        self.assertNotIn(("write",), at(Keeping("unnamed", "old", False), *amid))
        self.assertEqual(at(Keeping("unnamed", "old", False), *amid)[("finish",)],
                         ("change", True, True, True, True, None, None))

    def test_whole_keeps_what_is_asked(self):
        change = ("change", True, True, True, True, None, None)
        self.assertEqual(at(Keeping("unused", "new", False), *change)[("whole",)],
                         ("whole", True, True, True, True, None, None))
        self.assertEqual(at(Keeping("unused", "old", False), *change)[("whole",)],
                         ("none", True, True, True, True, "whole", None))

    def test_stopping_amid_with_what_is_asked(self):
        amid = ("none", True, True, True, True, "whole", (True, True))
        self.assertEqual(at(Keeping("looked", "old", True), *amid)[("stop",)],
                         ("none", True, True, True, False, None, (True, True)))
        self.assertNotIn(("stop",), at(Keeping("looked", "old", False), *amid))
        self.assertNotIn(("stop",), at(Keeping("looked", "old", True), *START))

    def test_a_name_that_comes_behind_the_sweeper(self):
        keeping = Keeping("swept", "new", False)
        looked = at(keeping, "change", True, False, False, False, None, None)[("look",)]
        self.assertEqual(looked, ("change", True, False, False, False, None, (False, False)))
        named = at(keeping, *looked)[("name", "thing")]
        self.assertEqual(at(keeping, *named)[("drop", "base")],
                         ("change", False, True, False, False, None, (False, False)))
        self.assertNotIn(("drop", "thing"), at(keeping, *named))
        self.assertNotIn(("drop", "base"), at(Keeping("looked", "new", False), *named))
        unnamed = at(keeping, *named)[("unname", "thing")]
        self.assertEqual(at(keeping, *unnamed)[("drop", "thing")],
                         ("none", True, False, False, False, None, (False, False)))

    def test_what_a_sweeper_sees(self):
        for parts, saw in ((("whole", True, True, False, True, None, None), (True, False)),
                           (("change", True, True, False, False, None, None), (True, True)),
                           (("none", True, True, False, False, "change", None), (True, True)),
                           (("none", True, True, False, False, "whole", None), (True, False)),
                           (("change", True, False, False, False, None, None), (False, False)),
                           (("change", True, False, True, False, None, None), (False, True))):
            for drop in ("swept", "looked"):
                self.assertEqual(at(Keeping(drop, "old", True), *parts)[("look",)], parts[:6] + (saw,))
            for drop in ("unnamed", "unused", "unasked"):
                self.assertNotIn(("look",), at(Keeping(drop, "old", True), *parts))

    def test_rest_with_any_drop(self):
        for parts in ALL:
            self.assertEqual(at(Keeping(*parts), *START[:6], (False, True))[("rest",)], START)
            self.assertNotIn(("look",), at(Keeping(*parts), *START[:6], (False, True)))

    def test_each_drop_of_the_base(self):
        def goes(drop, form, asked, amid, looked):
            told = at(Keeping(drop, "old", True), form, True, True, False, asked, amid, looked)
            if ("drop", "base") in told:
                self.assertEqual(told[("drop", "base")], (form, False, True, False, asked, amid, looked))
            return ("drop", "base") in told
        for form, asked, amid, looked in itertools.product(["whole", "change"], [False, True],
                                                           [None, "whole", "change"], LOOKS):
            free = form == "whole" and amid != "change" and not asked
            unseen = looked in ((False, False), (True, False))
            told = [goes(drop, form, asked, amid, looked) for drop in DROPS]
            self.assertEqual(told, [True, form == "whole", free, unseen, unseen and free])

    def test_wrong_values(self):
        keeping = Keeping("swept", "old", True)
        for standing in NO_STANDINGS + odd_values():
            self.refused(standing, deeds_at, keeping, standing)
            self.refused(standing, deeds_at, standing=standing, keeping=Keeping("unnamed", "new", False))
        for value in odd_values() + [("swept", "old", True), "swept", Keeping]:
            self.refused(value, deeds_at, value, value)
            self.refused(value, deeds_at, value, START)


if __name__ == "__main__":
    unittest.main()
