"""[1] (d), [2], [21] and the interface of packedbases/losses.py."""

import inspect
import itertools
import random
import unittest

from keeping_model import ALL_STANDINGS, DROPS, START, Standing, lost, model_deeds, model_reached, model_scripts
from packedbases.errors import BadArgument
from packedbases.keepings import Keeping, all_keepings, deeds_at
from packedbases.losses import (is_shown, lacking, loss_script, loss_scripts, loses, safe_keepings, standings_of)
from samples import odd_values
from test_keepings import ALL, NO_STANDINGS

SAFE = [("unasked", "new", False), ("unasked", "new", True), ("unasked", "old", False),
        ("looked", "new", False), ("looked", "new", True), ("looked", "old", False)]
UNSAFE = [parts for parts in ALL if parts not in SAFE]
# What no script is longer than.
MOST = 6


def in_order(standings):
    return sorted({tuple(standing) for standing in standings}, key=str)


def model_lacking(parts, table):
    """[21], word for word."""
    needed = {START} | {behind for standing in table for behind in model_deeds(*parts, Standing(*standing)).values()}
    return in_order(needed - {tuple(standing) for standing in table})


class Case(unittest.TestCase):
    def refused(self, value, act, *parts, **named):
        with self.assertRaises(BadArgument) as caught:
            act(*parts, **named)
        self.assertIs(type(caught.exception), BadArgument)
        self.assertIs(caught.exception.value, value)


class LossTest(Case):
    def test_which_keepings_lose(self):
        for parts in ALL:
            self.assertIs(loses(Keeping(*parts)), any(map(lost, model_reached(*parts))), parts)
        self.assertEqual([parts for parts in ALL if not loses(keeping=Keeping(*parts))], SAFE)
        told = safe_keepings()
        self.assertEqual((type(told), told), (list, [Keeping(*parts) for parts in SAFE]))
        told.clear()
        self.assertEqual(len(safe_keepings()), 6)

    def test_each_of_the_five_drops_with_both_orders_with_stops_and_without(self):
        lengths = {parts: len(loss_script(Keeping(*parts)) or []) for parts in ALL}
        for drop in DROPS:
            self.assertEqual([lengths[drop, order, stops] for order in ("new", "old") for stops in (False, True)],
                             {"unnamed": [4, 4, 5, 3], "unused": [4, 4, 5, 3], "unasked": [0, 0, 0, 3],
                              "swept": [5, 5, 6, 3], "looked": [0, 0, 0, 3]}[drop])
        self.assertEqual(loss_script(Keeping("looked", "old", True)), [("ask",), ("write",), ("stop",)])
        self.assertEqual(sorted(loss_script(Keeping("unused", "new", False)), key=str)[:3],
                         [("ask",), ("drop", "base"), ("unname", "base")])
        self.assertIsNone(loss_script(keeping=Keeping("looked", "old", False)))

    def test_fewest_deeds_and_all_lists_of_them_in_order(self):
        for parts in ALL:
            wanted = model_scripts(*parts, MOST)
            wanted = sorted(wanted, key=lambda deeds: [str(deed) for deed in deeds])
            told = list(loss_scripts(Keeping(*parts)))
            self.assertEqual(told, wanted, parts)
            self.assertIn(loss_script(Keeping(*parts)), wanted or [None])
            self.assertEqual(bool(told), parts in UNSAFE)
            self.assertEqual({type(script) for script in told}, {list} if told else set())
        self.assertGreater(max(len(list(loss_scripts(keeping))) for keeping in all_keepings()), 5)

    def test_scripts_lead_to_a_loss_and_not_earlier(self):
        for keeping in all_keepings():
            for script in loss_scripts(keeping=keeping):
                standing = START
                for deed in script:
                    self.assertIs(lost(Standing(*standing)), False)
                    standing = dict(deeds_at(keeping, standing))[deed]
                self.assertIs(lost(Standing(*standing)), True)

    def test_lists_belong_to_the_caller(self):
        keeping = Keeping("swept", "old", False)
        wanted = list(loss_scripts(keeping))
        for script in loss_scripts(keeping):
            script.clear()
        loss_script(keeping).clear()
        half = loss_scripts(keeping)
        self.assertTrue(inspect.isgenerator(half))
        next(half).append("x")
        self.assertEqual(list(half), wanted[1:])
        self.assertEqual(list(loss_scripts(keeping)), wanted)
        self.assertEqual(len(loss_script(keeping)), 6)
        standings_of(keeping).clear()
        self.assertEqual(standings_of(keeping), in_order(model_reached("swept", "old", False)))

    def test_standings_of(self):
        for parts in ALL:
            told = standings_of(keeping=Keeping(*parts))
            self.assertEqual(told, in_order(model_reached(*parts)))
            self.assertEqual(str(told), str(in_order(model_reached(*parts))))
            self.assertEqual((type(told), {type(standing) for standing in told}), (list, {tuple}))
        self.assertLess(len(standings_of(Keeping("unasked", "new", False))), 30)

    def test_each_keeping_is_shown_to_lose_or_to_lose_nothing(self):
        for keeping in all_keepings():
            script = loss_script(keeping)
            self.assertIs(is_shown(keeping, standings_of(keeping)), script is None)
            self.assertIs(loses(keeping), script is not None)
            # No table at all shows a keeping that loses: a closed one has what its scripts lead to.
            self.assertIs(is_shown(keeping, [tuple(s) for s in ALL_STANDINGS if not lost(s)]), script is None and
                          not any(lost(behind) for s in ALL_STANDINGS for behind in model_deeds(
                              keeping.dropping, keeping.order, keeping.stops, s).values()))


class TableTest(Case):
    def test_tables_as_lists_and_tuples_doubled_and_turned(self):
        for parts in ALL:
            keeping = Keeping(*parts)
            table = standings_of(keeping)
            for shown in (table, tuple(table), table[::-1], table + table, tuple(table[5:] + table + table[:9])):
                self.assertIs(is_shown(keeping, shown), parts in SAFE)
                self.assertEqual(lacking(keeping, shown), [])
            self.assertIs(is_shown(value=table, keeping=keeping), parts in SAFE)

    def test_a_standing_left_out(self):
        for parts in ALL:
            keeping = Keeping(*parts)
            table = standings_of(keeping)
            for at, standing in enumerate(table):
                short = table[:at] + table[at + 1:]
                self.assertIs(is_shown(keeping, short), False)
                # Each standing that can be come to is led to from another one, or is the start.
                self.assertEqual(lacking(keeping, short), [standing])

    def test_a_lost_standing_more(self):
        gone = ("none", True, True, True, False, None, None)
        for parts in SAFE:
            keeping = Keeping(*parts)
            table = standings_of(keeping) + [gone]
            self.assertIs(is_shown(keeping, table), False)
            self.assertEqual(lacking(keeping, table), [])
            self.assertIs(is_shown(keeping, table[:-1]), True)

    def test_more_than_can_be_come_to(self):
        keeping = Keeping("unasked", "new", False)
        table = standings_of(keeping)
        far = ("whole", False, False, False, False, None, (True, True))
        self.assertNotIn(far, table)
        self.assertIs(is_shown(keeping, table + [far]), False)
        behind = [("none", False, False, False, False, None, (True, True)), far[:6] + (None,),
                  ("whole", False, True, False, False, None, (True, True))]
        self.assertEqual(lacking(keeping, table + [far]), in_order(set(behind) - set(table)))
        grown = table + [far]
        while lacking(keeping, grown):
            grown = lacking(keeping, grown) + grown
        self.assertIs(is_shown(keeping, grown), True)

    def test_lacking_at_the_first_step(self):
        for parts in ALL:
            keeping = Keeping(*parts)
            self.assertEqual(lacking(keeping, []), [START])
            self.assertEqual(lacking(keeping, ()), [START])
            self.assertIs(is_shown(keeping, []), False)
            self.assertEqual(lacking(table=[START], keeping=keeping), in_order(behind for _, behind in
                                                                               deeds_at(keeping, START)))
            # A table without the start that leads back to it needs it once.
            self.assertEqual(lacking(keeping, [START[:3] + (False,) + START[4:]]).count(START), 1)

    def test_lacking_until_closed(self):
        for parts in ALL:
            keeping = Keeping(*parts)
            table = []
            while lacking(keeping, table):
                table = table + lacking(keeping, table)
            self.assertEqual(in_order(table), standings_of(keeping))
            self.assertEqual(len(table), len(standings_of(keeping)))

    def test_tables_drawn_of_all_standings(self):
        draw = random.Random(3)
        for parts in ALL * 3:
            reached = sorted(model_reached(*parts), key=str)
            for source in (ALL_STANDINGS, reached):
                table = [tuple(s) for s in draw.sample(source, draw.randint(1, len(source)))]
                table += draw.sample(table, len(table) // 3)
                wanted = model_lacking(parts, table)
                self.assertEqual(lacking(Keeping(*parts), table), wanted)
                self.assertIs(is_shown(Keeping(*parts), table),
                              not wanted and not any(lost(Standing(*s)) for s in table))

    def test_no_tables(self):
        table = standings_of(Keeping("looked", "new", True))
        keeping = Keeping("looked", "new", True)
        for standing in NO_STANDINGS:
            for value in (table + [standing], (standing, *table), [standing]):
                self.assertIs(is_shown(keeping, value), False)
                self.refused(value, lacking, keeping, value)
        for value in odd_values() + [dict.fromkeys(table), set(table), iter(table), str(table), START]:
            if not (isinstance(value, (list, tuple)) and len(value) == 0):
                self.assertIs(is_shown(keeping, value), False)
                self.refused(value, lacking, keeping, value)
                self.refused(value, lacking, table=value, keeping=keeping)

    def test_no_keepings(self):
        for value in odd_values() + [("swept", "old", True), Keeping, "swept"]:
            for act in (loses, loss_script, standings_of):
                self.refused(value, act, value)
                self.refused(value, act, keeping=value)
            for act in (is_shown, lacking):
                self.refused(value, act, value, value)
                self.refused(value, act, value, [START])
            told = loss_scripts(value)
            self.refused(value, next, told)
            self.refused(value, list, loss_scripts(keeping=value))

    def test_that_all_is_told_again(self):
        for parts in itertools.chain(UNSAFE[:4], SAFE[:2]):
            for act in (loses, loss_script, standings_of):
                self.assertEqual(act(Keeping(*parts)), act(Keeping(*parts)))


if __name__ == "__main__":
    unittest.main()
