"""[2], [23] and the interface of packedbases/sessions.py."""

import random
import unittest
from contextlib import nullcontext
from itertools import product

from packedbases.errors import BadArgument, BadChange, BadRule, NothingLeft, PackError
from packedbases.rules import Rule
from packedbases.sessions import Attempt, Session, attempted
from samples import ANY, LESS, MORE, SIGNS, Angry, Nasty, odd_values, one_measure, random_rule

SAME = ("k", "k", ("same",))
BOTH = one_measure(["less", "more"])
ONE = one_measure(["less"])
KINDS = ["a", "b"]
TWELVE = Rule(KINDS, {"m": True}, [(kind, base, (sign,)) for kind in KINDS for base in KINDS for sign in SIGNS][:12])
NO_WAYS = [("k", "l", ("any",)), ("k", "k", ("any", "any")), ("k", "k", ()), ("k", "k", ["any"]), ("k", "k", "any"),
           ["k", "k", ("any",)], ("k", "k"), ("k", "k", ("any",), 1), ("k", "k", ("none",)), ("K", "k", ("any",)),
           (["k"], "k", ("any",)), ("k", {}, ("any",)), ("k", "k", ([],)), "k", Nasty(), (Nasty(), "k", ("any",)),
           ("k", "k", Nasty()), ("k", "k", (Angry(),)), ("k", Angry(), ("any",))]
NO_LIMITS = [("deep", {"deep": -1}), ("deep", {"deep": 10}), ("deep", {"deep": True}), ("deep", {"deep": []}),
             ("tall", {"tall": 0}), ("tall", {"tall": 10}), ("tall", {"tall": False}), ("tall", {"tall": "1"}),
             ("free", {"free": 1}), ("free", {"free": None}), ("free", {"free": Nasty()}),
             ("deep", {"deep": 10, "tall": 0, "free": 0}), ("tall", {"deep": 9, "tall": 0, "free": 0})]


class Fault(Exception):
    """An error that leaves a block."""


class Case(unittest.TestCase):
    def refused(self, kind, value, act, *parts, **named):
        with self.assertRaises(kind) as caught:
            act(*parts, **named)
        self.assertIs(type(caught.exception), kind)
        field = caught.exception.part if kind is BadRule else caught.exception.value
        self.assertIs(field, value)


class SessionTest(Case):
    def test_each_change(self):
        session = Session(rule=BOTH)
        self.assertEqual((session.result(), len(session)), (BOTH, 0))
        self.assertIsNone(session.add(way=SAME))
        self.assertEqual((session.result(), len(session)), (one_measure(["less", "more", "same"]), 1))
        self.assertIsNone(session.strike(way=LESS))
        self.assertEqual((session.result(), len(session)), (one_measure(["same", "more"]), 2))
        self.assertIsNone(session.limit(deep=1, tall=2, free=True))
        self.assertEqual(session.result(), one_measure(["same", "more"]).limited(deep=1, tall=2, free=True))
        self.assertIsNone(session.limit(tall=3))
        self.assertEqual((session.result(), len(session)), (one_measure(["same", "more"]).limited(tall=3), 4))
        session.add(LESS)
        self.assertEqual(session.result().tall, 3)
        self.assertIsNone(session.limit())
        self.assertEqual((session.result(), len(session)), (one_measure(["same", "more", "less"]), 6))

    def test_results_do_not_change(self):
        session = Session(BOTH)
        ahead = session.result()
        session.strike(LESS)
        self.assertEqual(ahead, BOTH)
        ahead.ways().clear()
        session.result().ways().append(ANY)
        self.assertEqual(session.result(), one_measure(["more"]))
        self.assertEqual(BOTH, one_measure(["less", "more"]))

    def test_undo(self):
        session = Session(BOTH)
        rules = [BOTH]
        for act in (lambda: session.add(ANY), lambda: session.strike(MORE), lambda: session.limit(deep=0),
                    lambda: session.limit(deep=0), lambda: session.add(MORE)):
            act()
            rules.append(session.result())
        for many in (5, 4, 3, 2, 1):
            self.assertEqual((len(session), session.result()), (many, rules[many]))
            self.assertIsNone(session.undo())
        self.assertEqual((len(session), session.result()), (0, BOTH))
        for _ in range(2):
            with self.assertRaises(NothingLeft):
                session.undo()
            self.assertEqual((len(session), session.result()), (0, BOTH))
        session.add(SAME)
        session.undo()
        session.strike(LESS)
        self.assertEqual((len(session), session.result()), (1, one_measure(["more"])))
        session.undo()
        self.assertEqual(session.result(), BOTH)

    def test_a_limit_that_was_so_already_is_a_change(self):
        session = Session(BOTH.limited(deep=2))
        session.limit(deep=2)
        session.limit(deep=2)
        self.assertEqual((len(session), session.result()), (2, BOTH.limited(deep=2)))
        session.undo()
        self.assertEqual((len(session), session.result()), (1, BOTH.limited(deep=2)))
        with self.assertRaises(TypeError):
            session.limit(1, 2, True)

    def test_wrong_limits_are_no_changes(self):
        session = Session(BOTH)
        session.limit(tall=4)
        for part, told in NO_LIMITS:
            self.refused(BadRule, part, session.limit, **told)
            self.assertEqual((len(session), session.result()), (1, BOTH.limited(tall=4)))

    def test_ways_that_cannot_be_added(self):
        session = Session(BOTH)
        for way in NO_WAYS + [LESS, MORE] + odd_values():
            self.refused(BadChange, way, session.add, way)
            self.refused(BadChange, way, session.add, way=way)
        self.assertEqual((len(session), session.result()), (0, BOTH))
        full = Session(TWELVE)
        fresh = ("b", "b", ("any",))
        self.refused(BadChange, fresh, full.add, fresh)
        full.strike(("a", "a", ("any",)))
        full.add(fresh)
        self.assertEqual((len(full), len(full.result())), (2, 12))
        self.refused(BadChange, fresh, full.add, fresh)
        again = ("a", "a", ("any",))
        self.refused(BadChange, again, full.add, again)
        full.undo()
        full.add(again)
        self.assertEqual(full.result(), TWELVE)

    def test_ways_that_cannot_be_struck(self):
        session = Session(BOTH)
        for way in NO_WAYS + [SAME, ANY] + odd_values():
            self.refused(BadChange, way, session.strike, way)
            self.refused(BadChange, way, session.strike, way=way)
        session.strike(MORE)
        for way in (LESS, MORE):
            self.refused(BadChange, way, session.strike, way)
        self.assertEqual((len(session), session.result()), (1, ONE))
        session.add(MORE)
        session.strike(LESS)
        self.assertEqual(session.result(), one_measure(["more"]))
        only = Session(ONE)
        self.refused(BadChange, LESS, only.strike, LESS)
        self.assertEqual((len(only), only.result()), (0, ONE))

    def test_no_rules(self):
        for value in odd_values() + [Session(BOTH)]:
            self.refused(BadArgument, value, Session, value)
            self.refused(BadArgument, value, Session, rule=value)

    def test_many_changes_of_many_rules(self):
        for seed in range(150):
            draw = random.Random(seed)
            session = Session(random_rule(seed))
            rules = [session.result()]
            for _ in range(30):
                rule = rules[-1]
                way = (draw.choice(rule.kinds()), draw.choice(rule.kinds()),
                       tuple(draw.choice(SIGNS) for _ in rule.measures()))
                way = draw.choice([way, draw.choice(rule.ways())])
                name = draw.choice(["add", "add", "strike", "strike", "limit", "undo"])
                stays = {measure: rule.stays(measure) for measure in rule.measures()}
                held = {"deep": rule.deep, "tall": rule.tall, "free": rule.free}
                if name == "limit":
                    limits = {"deep": draw.choice([None, 3]), "tall": draw.choice([None, 4]), "free": draw.random() < 0.5}
                    session.limit(**limits)
                    rules.append(Rule(rule.kinds(), stays, rule.ways(), **limits))
                elif name == "undo":
                    if len(rules) == 1:
                        self.assertRaises(NothingLeft, session.undo)
                    else:
                        session.undo()
                        rules.pop()
                elif name == "add" and (way in rule or len(rule) == 12):
                    self.refused(BadChange, way, session.add, way)
                elif name == "strike" and (way not in rule or len(rule) == 1):
                    self.refused(BadChange, way, session.strike, way)
                else:
                    getattr(session, name)(way)
                    ways = rule.ways() + [way] if name == "add" else [kept for kept in rule.ways() if kept != way]
                    rules.append(Rule(rule.kinds(), stays, ways, **held))
                self.assertEqual((session.result(), len(session)), (rules[-1], len(rules) - 1))


class AttemptTest(Case):
    def setUp(self):
        self.session = Session(BOTH)
        self.session.add(SAME)
        self.session.limit(deep=3)
        self.ahead = self.session.result()

    def look(self, rule, many):
        self.assertEqual((self.session.result(), len(self.session)), (rule, many))

    def test_a_block_without_holding_fast(self):
        attempt = Attempt(session=self.session)
        with attempt as told:
            self.assertIs(told, attempt)
            self.session.strike(LESS)
            self.session.limit(tall=1)
            self.look(one_measure(["more", "same"]).limited(tall=1), 4)
        self.look(self.ahead, 2)
        self.session.undo()
        self.look(one_measure(["less", "more", "same"]), 1)
        self.session.undo()
        self.look(BOTH, 0)

    def test_a_block_that_holds_fast(self):
        with Attempt(self.session) as attempt:
            self.session.strike(LESS)
            self.assertIsNone(attempt.hold_fast())
            self.session.strike(MORE)
        self.look(one_measure(["same"]).limited(deep=3), 4)
        self.session.undo()
        self.session.undo()
        self.look(self.ahead, 2)

    def test_an_error_that_leaves_the_block(self):
        for kind, fast in ((Fault, False), (Fault, True), (BadChange, False), (BadChange, True)):
            self.setUp()
            with self.assertRaises(kind):
                with Attempt(self.session) as attempt:
                    self.session.strike(LESS)
                    if fast:
                        attempt.hold_fast()
                    if kind is Fault:
                        raise Fault()
                    self.session.strike(LESS)
            if fast:
                self.look(one_measure(["more", "same"]).limited(deep=3), 3)
            else:
                self.look(self.ahead, 2)

    def test_holding_fast_ahead_of_the_block_and_behind_it(self):
        attempt = Attempt(self.session)
        attempt.hold_fast()
        self.session.limit(deep=5)
        with attempt:
            self.session.strike(LESS)
        self.look(self.ahead.limited(deep=5), 3)
        attempt.hold_fast()
        self.look(self.ahead.limited(deep=5), 3)

    def test_a_block_that_undoes_changes_of_the_session_itself(self):
        with Attempt(self.session):
            self.session.undo()
            self.session.undo()
            self.look(BOTH, 0)
            self.assertRaises(NothingLeft, self.session.undo)
            self.session.strike(LESS)
        self.look(self.ahead, 2)
        self.session.undo()
        self.look(one_measure(["less", "more", "same"]), 1)
        with self.assertRaises(NothingLeft):
            with Attempt(self.session):
                self.session.undo()
                self.session.undo()
        self.look(one_measure(["less", "more", "same"]), 1)
        with Attempt(self.session) as attempt:
            self.session.undo()
            attempt.hold_fast()
        self.look(BOTH, 0)

    def test_what_is_ahead_of_the_block_is_that_of_its_entering(self):
        attempt = Attempt(self.session)
        self.session.undo()
        with attempt:
            self.session.undo()
        self.look(one_measure(["less", "more", "same"]), 1)

    def test_a_block_in_a_block(self):
        with Attempt(self.session):
            self.session.limit(deep=1)
            with Attempt(self.session) as inner:
                self.session.limit(deep=2)
                inner.hold_fast()
            self.assertEqual(self.session.result().deep, 2)
            with Attempt(self.session):
                self.session.limit(deep=4)
            self.assertEqual(self.session.result().deep, 2)
        self.look(self.ahead, 2)

    def test_blocks_in_blocks_that_hold_fast_or_not_and_end_or_are_left(self):
        first, second = one_measure(["more", "same"]).limited(deep=3), one_measure(["same"]).limited(deep=3)
        for outer_fast, inner_fast, inner_left, outer_left in product((False, True), repeat=4):
            self.setUp()
            inner_rule, inner_many = (second, 4) if inner_fast else (first, 3)
            with self.assertRaises(Fault) if outer_left else nullcontext():
                with Attempt(self.session) as outer:
                    self.session.strike(LESS)
                    if outer_fast:
                        outer.hold_fast()
                    with self.assertRaises(Fault) if inner_left else nullcontext():
                        with Attempt(self.session) as inner:
                            self.session.strike(MORE)
                            if inner_fast:
                                inner.hold_fast()
                            if inner_left:
                                raise Fault()
                            self.look(second, 4)
                    self.look(inner_rule, inner_many)
                    if outer_left:
                        raise Fault()
            self.look(*(inner_rule, inner_many) if outer_fast else (self.ahead, 2))

    def test_an_inner_block_that_holds_its_outer_one_fast(self):
        with Attempt(self.session) as outer:
            with Attempt(self.session):
                self.session.strike(LESS)
                outer.hold_fast()
            self.look(self.ahead, 2)
            self.session.strike(MORE)
        self.look(one_measure(["less", "same"]).limited(deep=3), 3)

    def test_an_error_that_leaves_both_blocks(self):
        for outer_fast, inner_fast in product((False, True), repeat=2):
            self.setUp()
            with self.assertRaises(Fault):
                with Attempt(self.session) as outer:
                    self.session.strike(LESS)
                    if outer_fast:
                        outer.hold_fast()
                    with Attempt(self.session) as inner:
                        self.session.strike(MORE)
                        if inner_fast:
                            inner.hold_fast()
                        raise Fault()
            kept = one_measure(["same"] if inner_fast else ["more", "same"]).limited(deep=3)
            self.look(*(kept, 3 + inner_fast) if outer_fast else (self.ahead, 2))

    def test_one_attempt_for_a_second_block(self):
        for first_fast, first_left, second_fast, second_left in product((False, True), repeat=4):
            for between in (False, True):
                self.setUp()
                attempt = Attempt(self.session)
                for fast, left, way in ((first_fast, first_left, LESS), (second_fast, second_left, MORE)):
                    ahead, many = self.session.result(), len(self.session)
                    with self.assertRaises(Fault) if left else nullcontext():
                        with attempt as told:
                            self.assertIs(told, attempt)
                            self.session.strike(way)
                            behind = self.session.result()
                            if fast:
                                attempt.hold_fast()
                            if left:
                                raise Fault()
                    self.look(*(behind, many + 1) if fast else (ahead, many))
                    # Ahead of the second block this does nothing to it, and nothing behind a block.
                    if between:
                        attempt.hold_fast()
                    self.look(*(behind, many + 1) if fast else (ahead, many))

    def test_changes_between_two_blocks_of_one_attempt_stay(self):
        for between in (False, True):
            self.setUp()
            attempt = Attempt(self.session)
            with attempt:
                self.session.strike(LESS)
            self.session.strike(MORE)
            if between:
                attempt.hold_fast()
            with attempt:
                self.session.undo()
                self.session.undo()
            self.look(one_measure(["less", "same"]).limited(deep=3), 3)

    def test_holding_fast_twice_and_changes_behind_it(self):
        with Attempt(self.session) as attempt:
            attempt.hold_fast()
            self.session.strike(LESS)
            attempt.hold_fast()
            self.session.strike(MORE)
        self.look(one_measure(["same"]).limited(deep=3), 4)

    def test_no_sessions(self):
        for value in odd_values() + [BOTH, Attempt(self.session)]:
            self.refused(BadArgument, value, Attempt, value)
            self.refused(BadArgument, value, Attempt, session=value)
            self.refused(BadArgument, value, attempted, value, value)
            self.refused(BadArgument, value, attempted, value, [("undo",)], fast=True)


class AttemptedTest(Case):
    def setUp(self):
        self.session = Session(BOTH)
        self.session.limit(deep=3)

    def look(self, rule, many):
        self.assertEqual((self.session.result(), len(self.session)), (rule, many))

    def test_rules_behind_each_change(self):
        changes = [("add", SAME), ("strike", LESS), ("limit", None, 4, True), ("undo",), ("undo",), ("undo",), ("undo",),
                   ("limit", None, None, False)]
        ahead = BOTH.limited(deep=3)
        wanted = [one_measure(["less", "more", "same"]).limited(deep=3), one_measure(["more", "same"]).limited(deep=3),
                  one_measure(["more", "same"]).limited(tall=4, free=True), one_measure(["more", "same"]).limited(deep=3),
                  one_measure(["less", "more", "same"]).limited(deep=3), ahead, BOTH, BOTH]
        for fast in (False, True):
            self.setUp()
            told = attempted(changes=changes, session=self.session, fast=fast)
            self.assertEqual((type(told), told), (list, wanted))
            self.assertEqual(len(changes), 8)
            self.look(BOTH, 1) if fast else self.look(ahead, 1)
        self.setUp()
        self.assertEqual(attempted(self.session, changes), wanted)
        self.look(ahead, 1)
        told.clear()
        self.assertEqual(attempted(self.session, []), [])
        self.assertEqual(attempted(self.session, [], fast=True), [])
        self.look(ahead, 1)
        with self.assertRaises(TypeError):
            attempted(self.session, changes, True)

    def test_changes_that_stay_can_be_undone_one_by_one(self):
        attempted(self.session, [("strike", LESS), ("limit", 1, None, False)], fast=True)
        self.look(one_measure(["more"]).limited(deep=1), 3)
        self.session.undo()
        self.look(one_measure(["more"]).limited(deep=3), 2)

    def test_values_that_are_no_changes(self):
        no_changes = [("add",), ("add", SAME, 1), ["add", SAME], ("strike",), ("strike", LESS, 1), ("limit",), ("limit", 1, 2),
                      ("limit", 1, 2, True, 1), ("undo", 1), ["undo"], "undo", ("redo",), ("Undo",), ("",), (), (None,),
                      (["undo"],), ({},), ((),), {"undo": 1}, (Nasty(),), (Angry(), LESS), Nasty(), Angry(), 1, None]
        for change in no_changes + odd_values():
            for fast in (False, True):
                for changes in ([change], [("strike", LESS), change, ("strike", LESS)], [("undo",), change, None]):
                    self.refused(BadChange, change, attempted, self.session, changes, fast=fast)
                    self.look(BOTH.limited(deep=3), 1)

    def test_a_change_that_a_method_refuses(self):
        for kind, value, change in ((BadChange, LESS, ("add", LESS)), (BadChange, SAME, ("strike", SAME)),
                                    (BadRule, "deep", ("limit", 10, 0, 1)), (BadRule, "tall", ("limit", 1, 0, 1)),
                                    (BadRule, "free", ("limit", None, None, 1)), (BadRule, "deep", ("limit", [], [], []))):
            for fast in (False, True):
                for ahead in ([], [("limit", 1, None, False), ("undo",), ("undo",)]):
                    self.refused(kind, value, attempted, self.session, ahead + [change, ("undo",)], fast=fast)
                    self.look(BOTH.limited(deep=3), 1)
        for way in NO_WAYS + odd_values():
            for name in ("add", "strike"):
                self.refused(BadChange, way, attempted, self.session, [(name, way)])
        for fast in (False, True):
            with self.assertRaises(NothingLeft):
                attempted(self.session, [("undo",), ("undo",)], fast=fast)
            self.look(BOTH.limited(deep=3), 1)

    def test_the_first_wrong_change_is_told(self):
        wrong, later = ("undo", 1), ("add", LESS)
        self.refused(BadChange, wrong, attempted, self.session, [wrong, later])
        self.refused(BadChange, LESS, attempted, self.session, [later, wrong])

    def test_errors_are_pack_errors(self):
        for act in (lambda: Session(1), lambda: Attempt(1), lambda: attempted(1, []), Session(ONE).undo,
                    lambda: Session(ONE).add(1)):
            self.assertRaises(PackError, act)


if __name__ == "__main__":
    unittest.main()
