"""[1] and [2] over the whole program: each test goes through several modules."""

import copy
import itertools
import random
import unittest

from model import chain_of
from packedbases import cells, chains, compared, falling, joins, keepings, live, losses, mends, notes, packs, rings, walks
from packedbases.cells import cell_of, cells_of
from packedbases.consoles import Console
from packedbases.errors import BadBase, BadChange, NothingLeft, PackError, Ringed
from packedbases.given import Given
from packedbases.orders import Orders, replayed
from packedbases.rules import Rule
from packedbases.sessions import Session, attempted
from packedbases.store import Store, played
from samples import ANY, LESS, MORE, SIGNS, random_rule, round_rule, sparse_rule

FREELY = Rule(["k"], {"m": True}, [ANY])
FORTY = 10 ** 40 - 1


def stays_of(rule):
    return {measure: rule.stays(measure) for measure in rule.measures()}


def limited_rule(seed):
    draw = random.Random(seed)
    rule = draw.choice([random_rule, round_rule, sparse_rule])(seed)
    return rule.limited(deep=draw.choice([None, None, 0, 1, 2]), tall=draw.choice([None, None, 1, 2, 3, 5]),
                        free=draw.random() < 0.3)


def random_store(draw, rule, packers, many=40):
    """A store behind many deeds that it took, with a change of the numbers that move now and then."""
    store = Store(rule)
    words = ["a", "b", "c", "d", "e"]
    for word in words:
        store.put(word, draw.choice(rule.kinds()), {measure: draw.randint(-2, 2) for measure in rule.measures()})
    moving = [measure for measure in rule.measures() if not rule.stays(measure)]
    for _ in range(many):
        packer = draw.randint(1, packers)
        if packer in store.pending():
            store.write(packer) if draw.random() < 0.8 else store.stop(packer)
        elif moving and draw.random() < 0.3:
            store.mark(draw.choice(words), draw.choice(moving), draw.randint(-2, 2))
        elif draw.random() < 0.1:
            store.whole(draw.choice(words))
        elif store.ring() is None:
            try:
                store.ask(packer, draw.choice(words), draw.choice(words))
            except BadBase:
                pass
    return store


class Case(unittest.TestCase):
    def play(self, rule, script):
        """A store behind a script that was written, read back, and played."""
        text = notes.write_script(script)
        self.assertEqual(notes.read_script(text), script)
        return played(notes.read_rule(notes.write_rule(rule)), notes.read_script(text))


class PromiseTest(Case):
    def test_a_rings_are_rings_of_comparisons(self):
        many = 0
        for seed in range(250):
            rule = random_rule(seed)
            script = rings.ring_script(rule, 2)
            if script is None:
                continue
            store = self.play(rule, script)
            ring = store.ring()
            walk = walks.good_walk(rule)
            pairs = list(zip(ring, ring[1:] + ring[:1]))
            self.assertEqual([store.base_of(word) for word, _ in pairs], [base for _, base in pairs])
            # Numbers that stay stand as at each asking; those that move may have been set since.
            ways = [(kind, base, tuple(sign if rule.stays(measure) else "any" for sign, measure
                                       in zip(signs, rule.measures()))) for kind, base, signs in walk]
            let = cells_of(Rule(rule.kinds(), stays_of(rule), list({way: 1 for way in ways})))
            told = [cell_of(rule, store.kind_of(word), store.marks_of(word), store.kind_of(base), store.marks_of(base))
                    for word, base in pairs]
            self.assertTrue(all(cell in let for cell in told))
            if not all(stays_of(rule).values()):
                continue
            self.assertTrue(all(cell in cells_of(rule) for cell in told))
            closed = Rule(rule.kinds(), stays_of(rule), list({cell: 1 for cell in told}))
            self.assertIs(walks.is_walk(closed, told), True)
            self.assertIs(walks.is_good(closed, told), True)
            many += 1
        self.assertGreater(many, 60)

    def test_b_either_rows_that_fall_for_ever_or_deeds_that_close_a_ring(self):
        papers = scripts = 0
        for seed in range(300):
            rule = sparse_rule(seed)
            paper, script = falling.paper_of(rule), rings.ring_script(rule, 3)
            self.assertIs(paper is None, script is not None)
            if paper is None:
                store = self.play(rule, script)
                self.assertEqual(len(store.ring()), len(walks.good_walk(rule)))
                self.assertEqual(len(store), rings.least_ring(rule, 3))
                self.assertEqual(Console(rule).execute("falls"), ["never"])
                scripts += 1
                continue
            shown = notes.read_paper(rule, notes.write_paper(rule, paper))
            self.assertIs(falling.is_paper(rule, shown), True)
            self.assertEqual(Console(rule).execute("falls"), [str(len(shown))])
            store = random_store(random.Random(seed), rule, 3)
            self.assertIsNone(store.ring())
            for word in store.words():
                numbers = [falling.falling(rule, shown, store.kind_of(held), store.marks_of(held))
                           for held in store.chain(word)]
                self.assertEqual(numbers, sorted(numbers, reverse=True))
                self.assertEqual(len(set(map(tuple, numbers))), len(numbers))
            papers += 1
        self.assertGreater(min(papers, scripts), 60)

    def test_b_papers_of_any_author(self):
        for signs in itertools.chain.from_iterable(itertools.combinations(SIGNS, many) for many in (1, 2, 3)):
            rule = Rule(["k"], {"m": True}, [("k", "k", (sign,)) for sign in signs])
            shown = [notes.read_paper(rule, text) if falls(rule, text) else None for text in ("k:0:-m\n", "k:9:+m\n")]
            self.assertIs(any(shown), falling.paper_of(rule) is not None)
            self.assertIs(any(shown), not rings.closes(rule, 9))

    def test_c_limits_bind_as_many_packers_as_is_told(self):
        told = {}
        for deep, tall, free in itertools.product([None, 0, 1], [None, 1, 2, 3, 4], [False, True]):
            rule = FREELY.limited(deep=deep, tall=tall, free=free)
            for packers in (1, 2, 3):
                given = Given(rule, [(word, "k", (0,)) for word in ("a", "b")])
                deeds = Orders(given, packers).ring_deeds()
                self.assertIs(deeds is not None, rings.closes(rule, packers))
                self.assertEqual(deeds is None, given.ring(packers) is None)
                limits = mends.greatest_limits(rule, packers)
                self.assertIs(deeds is None, any(narrower((deep, tall, free), wide) for wide in limits))
                told[packers] = told.get(packers, 0) + (deeds is None)
                if deeds is not None:
                    puts = [("put", word, *given[word]) for word in given.words()]
                    self.assertEqual(self.play(rule, puts + deeds).ring(), ["a", "b"])
        self.assertEqual(told, {1: 24, 2: 0, 3: 0})

    def test_c_asking_and_writing_are_two_deeds(self):
        rule = FREELY.limited(deep=0, tall=2, free=True)
        self.assertEqual([rings.closes(rule, packers) for packers in (1, 2, 3)], [False, True, True])
        given = Given(rule, [("a", "k", (0,)), ("b", "k", (0,))])
        deeds = [("ask", 1, "a", "b"), ("ask", 2, "b", "a"), ("write", 1), ("write", 2)]
        self.assertEqual(joins.rings_in(replayed(given, 2, deeds)), [["a", "b"]])
        self.assertIsNone(replayed(given, 1, deeds))
        self.assertIsNone(replayed(given, 2, [deeds[0], deeds[2], deeds[1]]))

    def test_d_each_keeping_loses_by_the_fewest_deeds_or_is_shown(self):
        safe = []
        for keeping in keepings.all_keepings():
            script = losses.loss_script(keeping)
            table = losses.standings_of(keeping)
            if script is None:
                self.assertIs(losses.is_shown(keeping, table), True)
                safe.append(keeping)
                continue
            standing = keepings.START
            for deed in script:
                self.assertIn(standing, table)
                standing = dict(keepings.deeds_at(keeping, standing))[deed]
            self.assertEqual(keepings.deeds_at(keeping, standing), [])
            self.assertIs(losses.is_shown(keeping, table), False)
        self.assertEqual(losses.safe_keepings(), safe)

    def test_e_the_longest_chains_are_told_and_shown_by_deeds(self):
        told = {}
        for seed in range(300):
            rule = limited_rule(seed)
            for packers in (1, 2):
                most = chains.longest(rule, packers)
                self.assertEqual(Console(rule).execute(f"chain {packers}"), ["none" if most is None else str(most)])
                length = 12 if most is None else most
                store = self.play(rule, chains.chain_deeds(rule, packers, length))
                self.assertEqual(max(store.depth(word) for word in store.words()), length)
                paper = chains.chain_paper(rule, packers)
                self.assertEqual(chains.shown_bound(rule, packers, paper), most)
                self.assertIs(chains.shows_endless(rule, packers, paper), most is None)
                if most is not None:
                    self.assertIsNone(chains.chain_deeds(rule, packers, most + 1))
                    self.assertEqual(mends.Mend(rule, [], [("short", packers, most)]).unmet(()), [])
                told[most is None] = told.get(most is None, 0) + 1
        self.assertGreater(min(told[True], told[False]), 100, told)

    def test_f_joined_stores_and_joined_rules(self):
        told = {}
        for seed in range(300):
            draw = random.Random(seed)
            rule = random_rule(seed, kinds=2, measures=2, ways=3)
            other = Rule(rule.kinds(), stays_of(rule), [(draw.choice(rule.kinds()), draw.choice(rule.kinds()), tuple(
                draw.choice(SIGNS) for _ in rule.measures())) for _ in range(1)])
            walk = joins.joined_ring(rule, other)
            if walk is None and falling.paper_of(rule) is not None and falling.paper_of(other) is not None:
                self.assertIs(joins.joins_safely(rule, other), True)
                one, two = random_store(draw, rule, 2), Store(other)
                for word in one.words():
                    two.put(word, one.kind_of(word), one.marks_of(word))
                for word, base in itertools.permutations(two.words(), 2):
                    if draw.random() < 0.5 and two.lets_by(word, base):
                        two.ask(1, word, base)
                        two.write(1)
                for part in itertools.combinations(one.words(), 2):
                    self.assertEqual(joins.rings_in(joins.joined(one.forms(), two.forms(), list(part))), [])
                self.assertEqual(joins.keeps_apart(one.forms(), two.forms()), [[]])
                told["safe"] = told.get("safe", 0) + 1
            elif walk is not None:
                self.assertIs(joins.joins_safely(rule, other), False)
                self.assertIs(rings.closes(rule | other, 1), True)
                self.joined_along(rule, other, walk)
                told["not"] = told.get("not", 0) + 1
        self.assertGreater(min(told["safe"], told["not"]), 30, told)

    def joined_along(self, rule, other, walk):
        """Two stores, one of each rule, of which the joined forms close the ring that a walk tells."""
        both = rule | other
        ways = [way for _, way in walk]
        words = ["a" + "abcdefghijklmnopqrstuvwxyz"[at] for at in range(len(walk))]
        stores = {1: Store(rule), 2: Store(other)}
        for store in stores.values():
            for word, way, marks in zip(words, ways, walks.ring_marks(both, ways)):
                store.put(word, way[0], marks)
        for at, (side, way) in enumerate(walk):
            store, word, base = stores[side], words[at], words[(at + 1) % len(words)]
            for measure, sign in zip(rule.measures(), way[2]):
                if not rule.stays(measure):
                    step = {"less": -1, "more": 1}.get(sign, 0)
                    store.mark(base, measure, store.marks_of(word)[measure] + step)
            store.ask(1, word, base)
            store.write(1)
        taken = [word for word, (side, _) in zip(words, walk) if side == 2]
        self.assertEqual([store.ring() for store in stores.values()], [None, None])
        closed = joins.joined(stores[1].forms(), stores[2].forms(), taken)
        self.assertEqual(joins.rings_in(closed), [words])
        self.assertNotIn(taken, joins.keeps_apart(stores[1].forms(), stores[2].forms()))

    def test_g_repairs_limits_and_lists_of_ways(self):
        mended = 0
        for seed in range(120):
            rule = random_rule(seed, ways=6)
            packers = 1 + seed % 3
            wish = ("ringless", packers)
            for limits in mends.greatest_limits(rule, packers):
                session = Session(rule)
                session.limit(**dict(zip(("deep", "tall", "free"), limits)))
                self.assertIs(rings.closes(session.result(), packers), False)
                self.assertIs(compared.within(session.result(), rule.limited()), True)
            found = mends.widest(rule, packers)
            for ways in found:
                kept = Rule(rule.kinds(), stays_of(rule), ways)
                self.assertEqual(mends.Mend(kept, [], [wish]).least(), [()])
                for way in [way for way in rule.ways() if way not in ways]:
                    self.assertIs(rings.closes(kept | Rule(rule.kinds(), stays_of(rule), [way]), packers), True)
                self.assertIs(cells_of(kept) <= cells_of(rule), True)
            struck = mends.Mend(rule, [("strike", way) for way in rule.ways()][:8], [wish])
            self.assertEqual(sorted([[way for at, way in enumerate(rule.ways()) if at not in picks]
                                     for picks in struck.least()], key=str), found)
            for picks in struck.least():
                text = notes.write_rule(struck.behind(picks))
                self.assertEqual(notes.read_rule(text), struck.behind(picks))
                mended += 1
        self.assertGreater(mended, 100)

    def test_g_rules_compared_for_all_things(self):
        told = {}
        for seed in range(200):
            draw = random.Random(seed)
            one = limited_rule(seed)
            other = Session(one)
            if draw.random() < 0.7 and len(one) > 1:
                other.strike(draw.choice(one.ways()))
            if draw.random() < 0.5:
                other.limit(deep=one.deep, tall=draw.choice([one.tall, 4]), free=one.free)
            other = other.result()
            parted = compared.parting(one, other)
            self.assertIs(parted is None, compared.alike(one, other))
            self.assertIs(compared.alike(one, other), compared.within(one, other) and compared.within(other, one))
            if parted is None:
                self.assertIs(cells_of(one) == cells_of(other), True)
                self.assertEqual(rings.least_ring(one, 1), rings.least_ring(other, 1))
            else:
                number, choice = parted
                self.assertEqual([compared.lets_choice(rule, choice) for rule in (one, other)], [number == 0, number == 1])
            told[parted is None] = told.get(parted is None, 0) + 1
        self.assertGreater(min(told[True], told[False]), 30, told)

    def test_h_a_live_store_agrees_with_whole_copies(self):
        for seed in range(60):
            draw = random.Random(seed)
            rule = random_rule(seed, kinds=1, measures=1, ways=3).limited(tall=draw.choice([None, 2, 4]))
            store, copies = live.Live(rule), {}
            for word in ["a", "b", "c", "d"]:
                copies[word] = [draw.randint(0, 3) for _ in range(draw.randint(0, 12))]
                store.put(word, rule.kinds()[0], {rule.measures()[0]: draw.randint(0, 2)}, copies[word])
            for _ in range(40):
                word, base = draw.sample(sorted(copies), 2)
                act = draw.choice(["pack", "pack", "whole", "write", "trial"])
                if act == "pack":
                    try:
                        store.pack(word, base)
                    except (BadBase, Ringed):
                        pass
                elif act == "whole":
                    store.whole(word)
                elif act == "write":
                    copies[word] = copies[base][:draw.randint(0, 12)] + [draw.randint(0, 3)]
                    store[word] = copies[word]
                else:
                    try:
                        live.tried(store, [word], [base])
                    except (BadBase, Ringed):
                        pass
                self.assertEqual({held: store[held] for held in store.words()}, copies)
                forms = store.forms()
                self.assertEqual(joins.rings_in(forms), [])
                whole = packs.packs_of(forms)
                self.assertEqual((whole.lost("newest"), whole.lost("own")), ([], []))
                for held in forms:
                    trail = [place[1] for place in whole.trail(held, "own")]
                    self.assertEqual(trail, chain_of(forms, held))
                    self.assertEqual(store.depth(held), len(trail) - 1)
                    contents = store[trail[-1]]
                    for near, far in zip(trail[-2::-1], trail[:0:-1]):
                        contents = live.made(contents, live.change_of(store[far], store[near]))
                    self.assertEqual(contents, copies[held])
                    if forms[held] is not None:
                        self.assertEqual(store.size(held), live.least_cost(store[forms[held]], store[held]))

    def test_h_what_is_written_is_read_back_as_it_was(self):
        for seed in range(150):
            rule = limited_rule(seed)
            store = random_store(random.Random(seed), rule, 3)
            again = self.play(rule, store.script())
            self.assertEqual((again.forms(), again.pending(), again.ring(), again.script()),
                             (store.forms(), store.pending(), store.ring(), store.script()))
            self.assertEqual([again.marks_of(word) for word in again.words()],
                             [store.marks_of(word) for word in store.words()])

    def test_what_closes_for_given_things_closes_for_the_rule(self):
        closed = kept = 0
        for seed in range(150):
            draw = random.Random(seed)
            rule = random_rule(seed, kinds=2, measures=2, ways=4).limited(
                deep=draw.choice([None, 0, 1]), tall=draw.choice([None, 1, 2, 3]), free=draw.random() < 0.3)
            given = Given(rule, [(word, draw.choice(rule.kinds()), tuple(draw.randint(0, 1) for _ in rule.measures()))
                                 for word in ("a", "b", "c")])
            for packers in (1, 2):
                orders = Orders(given, packers)
                forms = list(orders.lost_forms())
                self.assertEqual(bool(forms), given.ring(packers) is not None)
                if forms:
                    self.assertIs(rings.closes(rule, packers), True)
                    self.assertLessEqual(rings.least_ring(rule, packers), min(
                        len(ring) for held in forms for ring in joins.rings_in(held)))
                    closed += 1
                else:
                    kept += 1
                most = chains.longest(rule, packers)
                longest = max(length for length in orders.counts() if length is not None)
                self.assertTrue(most is None or longest <= most)
                self.assertEqual(longest, given.longest(packers))
                # The things of the rule's own least ring close it, by all that packers can make of them.
                walk = walks.good_walk(rule)
                if rings.closes(rule, packers) and len(walk) <= 3:
                    marks = walks.ring_marks(rule, walk)
                    around = Given(rule, [(word, way[0], tuple(held.values())) for word, way, held in zip("abc", walk, marks)])
                    self.assertEqual(len(around.ring(packers)), len(walk))
                    self.assertIsNotNone(Orders(around, packers).ring_deeds())
        self.assertGreater(min(closed, kept), 50)


def falls(rule, text):
    try:
        notes.read_paper(rule, text)
    except PackError:
        return False
    return True


def narrower(limits, wide):
    """Whether limits are nowhere wider than others."""
    return all(far is None or near is not None and near <= far for near, far in zip(limits[:2], wide[:2])) and (
        limits[2] or not wide[2])


def spoil(value):
    """Changes all lists and dicts in a value."""
    if isinstance(value, dict):
        for held in list(value.values()):
            spoil(held)
        value.clear()
        value["spoiled"] = value
    elif isinstance(value, (list, tuple)):
        for held in value:
            spoil(held)
        if isinstance(value, list):
            value.reverse()
            value.append("spoiled")


RULE = Rule(["a", "b"], {"m": True, "n": False}, [("a", "b", ("less", "any")), ("b", "a", ("any", "same")),
                                                   ("a", "a", ("more", "less"))], tall=5)
OLDER = Rule(["a", "b"], {"m": True, "n": False}, [("a", "b", ("less", "any")), ("b", "b", ("less", "more"))])
FORMS = {"a": "b", "b": "c", "c": None, "d": "a"}
OTHER_FORMS = {"a": None, "b": "a", "c": "b", "e": "d"}
KEEPING = keepings.Keeping("swept", "old", True)


def all_calls():
    """Calls of functions and methods of all modules that tell lists, dicts or tuples with such."""
    store = Store(RULE)
    given = Given(RULE, [("a", "a", (1, 2)), ("b", "b", (0, 0)), ("c", "a", (3, 3))])
    orders = Orders(given, 1)
    for word, kind, number in (("a", "a", 5), ("b", "b", 3), ("c", "a", 9)):
        store.put(word, kind, {"m": number, "n": number})
    store.ask(1, "a", "b")
    store.ask(2, "c", "b")
    store.write(1)
    held = live.Live(RULE)
    held.put("a", "a", {"m": 2, "n": 1}, [1, 2, 3])
    held.put("b", "b", {"m": 1, "n": 1}, [1, 2, 3, 4])
    held.pack("a", "b")
    mend = mends.Mend(RULE, [("strike", RULE.ways()[0]), ("free",)], [("ringless", 1)])
    piled = packs.Packs([[("a", "b"), ("b", None)], [("b", "c"), ("c", None), ("d", "z")]])
    console = Console(RULE)
    walk = walks.good_walk(RULE)
    paper = falling.paper_of(OLDER)
    return [
        RULE.kinds, RULE.measures, RULE.ways, lambda: RULE.ways_from("a"), lambda: walks.good_walk(RULE),
        lambda: walks.ring_marks(RULE, walk), lambda: falling.paper_of(OLDER),
        lambda: falling.falling(OLDER, paper, "a", {"m": 1, "n": 1}), store.words, lambda: store.marks_of("a"),
        lambda: store.chain("a"), store.forms, store.pending, store.script, store.ring, lambda: rings.ring_script(RULE, 2),
        lambda: chains.chain_walk(RULE, 4), lambda: chains.chain_deeds(RULE, 2, 4), lambda: chains.chain_paper(RULE, 2),
        lambda: chains.chain_paper(OLDER, 1), given.words, lambda: given.bases("a"), lambda: given.chain(2),
        lambda: given.ring(2), lambda: given.deeds(given.chain(1), 1), lambda: joins.rings_in({"a": "b", "b": "a"}),
        lambda: joins.depths_in(FORMS), lambda: joins.joined(FORMS, OTHER_FORMS, ["b"]),
        lambda: joins.joined_ring(RULE, OLDER), lambda: joins.keeps_apart(FORMS, OTHER_FORMS),
        lambda: live.made([1, 2], [("keep", 0, 1)]), lambda: live.change_of([1, 2, 3], [1, 2, 3, 4]), held.words, held.forms,
        lambda: held["a"], lambda: held.copy()["b"], lambda: cells.cells_of(RULE).cells(),
        lambda: cells.cells_of(RULE).ways(), lambda: keepings.deeds_at(KEEPING, keepings.START),
        lambda: losses.loss_script(KEEPING), lambda: list(losses.loss_scripts(KEEPING)),
        lambda: losses.standings_of(KEEPING), lambda: losses.lacking(KEEPING, []), lambda: mend.unmet(()), mend.least,
        lambda: list(mend.good()), lambda: mends.greatest_limits(RULE, 1), lambda: mends.widest(RULE, 1),
        lambda: attempted(Session(RULE), [("limit", 1, None, True)])[0].ways(), lambda: console.execute("ways"),
        lambda: console.execute("widest 1"), lambda: notes.read_script("write 1\nput a b 1,2\n"),
        lambda: notes.read_paper(OLDER, notes.write_paper(OLDER, paper)), orders.ring_deeds, lambda: orders.chain_deeds(1),
        orders.counts, lambda: list(orders.lost_forms()), lambda: replayed(given, 1, []), piled.rows, piled.words,
        lambda: piled.lost("own"), lambda: piled.needless("own"), lambda: piled.least_packs("own"),
        lambda: piled.folded("own").rows(), lambda: list(piled.trail("a", "newest")), lambda: packs.packs_of(FORMS).rows(),
        lambda: packs.Packs.wholes(["a"]).rows()]


class SameAgainTest(unittest.TestCase):
    def test_what_is_told_belongs_to_the_caller(self):
        forms = copy.deepcopy((FORMS, OTHER_FORMS))
        for at, act in enumerate(all_calls()):
            told = act()
            self.assertTrue(told is None or isinstance(told, (list, dict, tuple)), at)
            wanted = copy.deepcopy(told)
            spoil(told)
            self.assertEqual(str(act()), str(wanted), at)
        self.assertEqual((FORMS, OTHER_FORMS), forms)

    def test_what_is_given_may_be_changed_later(self):
        kinds, measures, ways = ["k"], {"m": True}, [LESS, MORE]
        things, menu, wishes = [("a", "k", (1,)), ("b", "k", (2,))], [("strike", LESS)], [("ringless", 1)]
        rows, held, numbers = [[("a", None)], [("b", "a")]], [("k", "k", ("less",))], [1, 2]
        rule = Rule(kinds, measures, ways)
        given, mend, piled = Given(rule, things), mends.Mend(rule, menu, wishes), packs.Packs(rows)
        orders, store, let = Orders(given, 1), live.Live(rule), cells.Cells(rule, held)
        store.put("a", "k", {"m": 1}, numbers)
        act = lambda: [rule.ways(), rule.kinds(), rule.measures(), given.words(), mend.least(), piled.rows(), orders.amount,
                       let.cells(), store["a"], list(mend.good()), orders.ring_deeds(), given.bases("a")]
        wanted = str(act())
        for value in (kinds, measures, ways, things, menu, wishes, rows, held, numbers):
            spoil(value)
        self.assertEqual(str(act()), wanted)

    def test_consoles_sessions_and_texts_tell_the_same(self):
        for seed in range(60):
            draw = random.Random(seed)
            rule = limited_rule(seed)
            console, session = Console(rule), Session(rule)
            for _ in range(6):
                way = (draw.choice(rule.kinds()), draw.choice(rule.kinds()), tuple(draw.choice(SIGNS) for _ in rule.measures()))
                name = draw.choice(["add", "strike"])
                try:
                    getattr(session, name)(way)
                except BadChange:
                    self.assertRaises(BadChange, console.execute, f"{name} {way[0]} {way[1]} {' '.join(way[2])}")
                else:
                    console.execute(f"{name} {way[0]} {way[1]} {' '.join(way[2])}")
                text = notes.write_rule(session.result())
                self.assertEqual([f"way {row}" for row in console.execute("ways")], text.splitlines()[3:])
                self.assertEqual(console.execute("changes"), [str(len(session))])
            while len(session):
                session.undo()
                console.execute("undo")
            self.assertEqual(session.result(), rule)
            self.assertRaises(NothingLeft, console.execute, "undo")

    def test_calls_at_the_bounds(self):
        kinds = ["a", "b", "c", "d", "e"]
        pairs = list(itertools.product(kinds, kinds))
        rule = Rule(kinds, {"x": True, "y": True, "z": False},
                    [(kind, base, ("upto", "from", "any")) for kind, base in pairs[1:13]], deep=9, tall=9)
        self.assertEqual((len(rule), notes.read_rule(notes.write_rule(rule))), (12, rule))
        self.assertEqual(len(mends.widest(rule, 9)[0]), len(mends.widest(rule.limited(), 3)[0]))
        mend = mends.Mend(rule, [("strike", way) for way in rule.ways()[:8]],
                          [("ringless", 9), ("short", 9, 9), ("keeps", rule.ways()[8])] * 2)
        self.assertEqual((len(mend), len(mend.behind(tuple(range(8))))), (8, 4))
        self.assertEqual(mend.least(), [picks for picks in mend.good() if not any(
            set(part) < set(picks) for part in mend.good())])
        things = [(word, kind, (0, 0, 0)) for word, kind in zip("abcdefgh", "abcdeabc")]
        given = Given(rule, things)
        self.assertEqual(len(given.deeds(given.chain(9), 9)[:8]), 8)
        alone = Given(Rule(kinds, {"x": True, "y": True, "z": False}, [("a", "d", ("less", "any", "any"))]), [
            (word, kind, (9 - at, 0, FORTY)) for at, (word, kind) in enumerate(zip("abcdefgh", "abcdeeee"))])
        self.assertEqual((Orders(alone, 3).amount, alone.longest(3)), (16, 1))
        twelve = packs.Packs([[("a", "b"), ("b", None)]] * 12)
        self.assertEqual(twelve.folded("own").rows(), [[("a", "b"), ("b", None)]])
        self.assertEqual(len(twelve.needless("own")), 22)


if __name__ == "__main__":
    unittest.main()
