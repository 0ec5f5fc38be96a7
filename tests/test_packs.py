"""[2], [27] and the interface of packedbases/packs.py."""

import inspect
import itertools
import operator
import random
import unittest

from packedbases.errors import BadArgument, BadEntry, BadNumber, BadWord, Lost
from packedbases.packs import Packs, packs_of
from samples import Angry, Nasty, odd_values

READERS = ["newest", "own"]
WORDS = ["a", "b", "c", "d", "ab", "abcdefgh"]
NO_READERS = ["", "Newest", "own ", "new", "old", "newest,own", "newestown", ["own"], ("own",), {"own": 1}, b"own", 0, 1, True]
NO_ENTRIES = [("a",), ("a", "b", "c"), ("a", "a"), ["a", "b"], ("A", "b"), ("a", "B"), ("", "b"), ("a", ""), ("abcdefghi", "b"),
              ("a", "abcdefghi"), ("a", False), ("a", 0), ("a", 1), (None, "a"), (None, None), (1, "a"), (["a"], "b"), ("a", ["b"]),
              ("a", ("b",)), ({}, None), ("a", {}), "ab", {"a": "b"}, None, 1, (Nasty(), "a"), ("a", Nasty()), (Angry(), None),
              ("a", Angry()), Nasty(), Angry()]
# Made from one alone and lost in both together, and the other way round.
ONE = [("a", "b"), ("b", None)]
OTHER = [("b", "a"), ("a", None)]


class Case(unittest.TestCase):
    def refused(self, kind, value, act, *parts, **named):
        with self.assertRaises(kind) as caught:
            act(*parts, **named)
        self.assertIs(type(caught.exception), kind)
        field = next(iter(vars(caught.exception).values()))
        self.assertTrue(field is value or type(value) is int and field == value, (field, value))


def newest(rows, word):
    """The place of a word in the newest pack that has it."""
    for number in range(len(rows) - 1, -1, -1):
        if word in [held for held, _ in rows[number]]:
            return number, word
    return None


def base_at(rows, place):
    return [base for word, base in rows[place[0]] if word == place[1]][0]


def read_from(rows, place, reader):
    """The place from which a reader takes the base of an entry that is no whole thing."""
    base = base_at(rows, place)
    if reader == "own" and base in [word for word, _ in rows[place[0]]]:
        return place[0], base
    return newest(rows, base)


def trail_of(rows, word, reader):
    """The places through which a reader goes from a thing on, and whether it makes the thing: [27], word for word."""
    trail = [newest(rows, word)]
    while base_at(rows, trail[-1]) is not None:
        place = read_from(rows, trail[-1], reader)
        if place is None or place in trail:
            return trail, False
        trail.append(place)
    return trail, True


def words_of(rows):
    return sorted({word for pack in rows for word, _ in pack})


def made_from(rows, reader):
    return [word for word in words_of(rows) if trail_of(rows, word, reader)[1]]


def folded_of(rows, reader):
    told = []
    for word in made_from(rows, reader):
        place = newest(rows, word)
        base = base_at(rows, place)
        far = base is not None and read_from(rows, place, reader) != newest(rows, base)
        told.append((word, None if far else base))
    return [told]


def least_of(rows, reader):
    """All least lists of packs, held against all lists."""
    made = made_from(rows, reader)
    kept = [numbers for size in range(len(rows) + 1) for numbers in itertools.combinations(range(len(rows)), size)
            if made_from([rows[number] for number in numbers], reader) == made]
    return [list(numbers) for numbers in kept if not any(set(part) < set(numbers) for part in kept)]


def random_rows(seed, most=6, words=5, wholes=0.3):
    draw = random.Random(seed)
    rows = []
    for _ in range(draw.randint(0, most)):
        pack = []
        for word in draw.sample(WORDS[:words], draw.randint(0, words)):
            others = [base for base in [*WORDS[:words], "zz"] if base != word]
            pack.append((word, None if draw.random() < wholes else draw.choice(others)))
        rows.append(pack)
    return rows


class PacksTest(Case):
    def test_lists_tuples_and_both(self):
        rows = [[("b", None), ("a", "b")], [], [("a", "zz")]]
        told = Packs(rows)
        for packs in (tuple(rows), tuple(map(tuple, rows)), [tuple(rows[0]), rows[1], rows[2]], list(map(tuple, rows))):
            self.assertEqual(Packs(packs=packs), told)
            self.assertEqual(Packs(packs).rows(), rows)
        self.assertEqual({type(part) for part in [told.rows(), *told.rows()]}, {list})
        self.assertEqual({type(entry) for pack in told.rows() for entry in pack}, {tuple})
        self.assertEqual((len(told), told.words()), (3, ["a", "b"]))

    def test_empty_ones(self):
        for empty in (Packs(), Packs([]), Packs(()), Packs(packs=[])):
            self.assertEqual((len(empty), empty.rows(), empty.words()), (0, [], []))
            for reader in READERS:
                self.assertEqual((empty.lost(reader), empty.needless(reader)), ([], []))
                self.assertEqual(empty.least_packs(reader), [[]])
                self.assertEqual(empty.folded(reader).rows(), [[]])
        self.assertEqual(Packs([[]]).rows(), [[]])
        self.assertEqual(len(Packs([[], ()])), 2)
        self.assertIs(Packs() == Packs([[]]), False)

    def test_what_is_given_and_told_belongs_to_the_caller(self):
        rows = [[("a", "b"), ("b", None)], [("a", None)]]
        packs = Packs(rows)
        rows[0].clear()
        rows.append([("c", None)])
        packs.rows()[0].clear()
        packs.rows().clear()
        packs.words().append("x")
        self.assertEqual(packs.rows(), [[("a", "b"), ("b", None)], [("a", None)]])
        for act in (packs.lost, packs.needless, packs.least_packs):
            wanted = act("newest")
            act("newest").append("x")
            self.assertEqual(act("newest"), wanted)
        packs.least_packs("newest")[0].append(5)
        self.assertEqual(packs.least_packs("newest"), [[0]])

    def test_no_packs(self):
        for entry in NO_ENTRIES:
            for packs in ([[entry]], [(entry,)], ([("c", None), entry],), [[("c", None)], [entry, ("d", "c")]]):
                self.refused(BadEntry, packs, Packs, packs)
                self.refused(BadEntry, packs, Packs, packs=packs)
        for packs in ([[("a", None), ("a", "b")]], [[("a", "b"), ("a", "b")]], [("a", "b")], ("a", "b"), [[("a", "b")], ("a", "b")],
                      [{("a", "b"): 1}], {0: [("a", "b")]}, [None], [[], None], "ab", ["ab"], Packs(), iter([]),
                      [[]] * 13, ([],) * 13, [[], [("a", "a")]]):
            self.refused(BadEntry, packs, Packs, packs)
        for value in odd_values():
            if not (isinstance(value, (list, tuple)) and all(isinstance(pack, (list, tuple)) and not pack for pack in value)):
                self.refused(BadEntry, value, Packs, value)

    def test_twelve_packs(self):
        twelve = Packs([[("a", "b")], [("b", None)]] * 6)
        self.assertEqual((len(twelve), twelve[(11, "b")], twelve[(10, "a")]), (12, None, "b"))
        self.assertEqual(list(twelve.trail("a", "own")), [(10, "a"), (11, "b")])
        self.assertEqual(twelve.needless("newest"), [(number, "ab"[number % 2]) for number in range(10)])
        self.assertEqual(len(Packs([[]] * 12)), 12)
        for reader in READERS:
            self.refused(BadNumber, 12, twelve.least_packs, reader)

    def test_wholes(self):
        self.assertEqual(Packs.wholes(["b", "a"]).rows(), [[("b", None)], [("a", None)]])
        self.assertEqual(Packs.wholes(words=("c",)).rows(), [[("c", None)]])
        self.assertEqual((Packs.wholes([]), Packs.wholes(())), (Packs(), Packs()))
        self.assertIsInstance(Packs.wholes(["a"]), Packs)
        self.assertEqual(Packs.wholes(["a", "a"]).rows(), [[("a", None)], [("a", None)]])
        letters = list("abcdefghijklm")
        self.assertEqual(len(Packs.wholes(letters[:12])), 12)
        for words in (letters, tuple(letters), ["a"] * 13):
            with self.assertRaises(BadEntry) as caught:
                Packs.wholes(words)
            self.assertEqual(caught.exception.value, [[(word, None)] for word in words])
            self.assertEqual(type(caught.exception.value), list)
        for words in (["A"], ["a", ""], ["a", None], [["a"]], [("a",)], ["abcdefghi"], [1], [True], {"a": 1}, {"a"}, "a", "abc",
                      iter(["a"]), ["a"] * 12 + ["A"], [Nasty()], (Angry(),), Packs()):
            self.refused(BadWord, words, Packs.wholes, words)
        for value in odd_values():
            if not (isinstance(value, (list, tuple)) and all(type(word) is str for word in value)):
                self.refused(BadWord, value, Packs.wholes, value)

    def test_places(self):
        rows = [[("b", None), ("a", "b")], [], [("a", "zz")]]
        packs = Packs(rows)
        held = {(0, "b"): None, (0, "a"): "b", (2, "a"): "zz"}
        for place in itertools.product(range(-4, 5), ["a", "b", "zz", "c", ""]):
            self.assertIs(place in packs, place in held)
            if place in held:
                self.assertEqual(packs[place], held[place])
            else:
                self.refused(BadEntry, place, lambda: packs[place])
        no_places = [(False, "a"), (True, "a"), (0.0, "a"), ("0", "a"), (None, "a"), ([0], "a"), (0, ["a"]), (0, None), (0, 1),
                     (0,), (0, "a", None), [0, "a"], 0, "a", (10 ** 30, "a"), (0, Nasty()), (Nasty(), "a"), (Angry(), "a"),
                     (0, Angry()), Nasty(), slice(0, 1)]
        for place in no_places + odd_values():
            self.assertIs(place in packs, False)
            self.refused(BadEntry, place, lambda: packs[place])
            self.assertIs(place in Packs(), False)
        with self.assertRaises(TypeError):
            list(packs)

    def test_equal_if_rows_are(self):
        packs = Packs([ONE, OTHER])
        self.assertIs(packs == Packs((tuple(ONE), tuple(OTHER))), True)
        for rows in ([OTHER, ONE], [ONE], [ONE, OTHER, []], [ONE[::-1], OTHER], [ONE, [("b", None), ("a", None)]]):
            self.assertIs(packs == Packs(rows), False)
            self.assertIs(packs != Packs(rows), True)
        for value in ([ONE, OTHER], tuple(map(tuple, (ONE, OTHER))), None, 2, "packs"):
            self.assertIs(packs == value, False)

    def test_together(self):
        one, other = Packs([ONE]), Packs([OTHER, []])
        self.assertEqual((one + other).rows(), [ONE, OTHER, []])
        self.assertEqual((other + one).rows(), [OTHER, [], ONE])
        self.assertEqual((one.rows(), other.rows()), ([ONE], [OTHER, []]))
        self.assertEqual(one + Packs(), one)
        twelve = Packs([[]] * 12)
        self.assertEqual((len(twelve + Packs()), len(Packs([[]] * 5) + Packs([[]] * 7))), (12, 12))
        many = Packs([[]] * 6)
        for left, right in ((twelve, one), (one, twelve), (Packs([[]] * 7), many)):
            self.refused(BadArgument, right, operator.add, left, right)
        for value in odd_values() + [[ONE], tuple(ONE)]:
            self.refused(BadArgument, value, operator.add, one, value)
            self.refused(BadArgument, value, operator.le, one, value)
            self.refused(BadArgument, value, operator.le, Packs(), value)

    def test_within(self):
        told = {}
        for seed in range(600):
            rows = random_rows(seed, 3, 3)
            other = random_rows(seed + 10000, 3, 3) if seed % 3 else rows[:-1] + [[("a", None)]]
            wanted = set(made_from(rows, "newest")) <= set(made_from(other, "newest"))
            self.assertIs(Packs(rows) <= Packs(other), wanted)
            told[wanted] = told.get(wanted, 0) + 1
        self.assertGreater(min(told[True], told[False]), 100, told)
        self.assertIs(Packs() <= Packs(), True)
        self.assertIs(Packs([ONE]) <= Packs([ONE, OTHER]), True)
        self.assertIs(Packs([ONE]) <= Packs([ONE, [("b", "a")]]), False)
        self.assertIs(Packs([[("a", "b")]]) <= Packs(), True)


class ReaderTest(Case):
    def check(self, rows, reader):
        """Held against the sentences of [27]; tells how many things are made, and how many are lost."""
        packs = Packs(rows)
        made = made_from(rows, reader)
        words = words_of(rows)
        self.assertEqual(packs.words(), words)
        used = set()
        for word in words:
            trail, holds = trail_of(rows, word, reader)
            self.assertIs(packs.makes(word, reader), holds)
            if holds:
                self.assertEqual(list(packs.trail(word, reader)), trail)
                used |= set(trail)
            else:
                self.refused(Lost, word, next, packs.trail(word, reader))
        self.assertEqual(packs.lost(reader), [word for word in words if word not in made])
        self.assertEqual(packs.needless(reader), [(number, word) for number, pack in enumerate(rows) for word, _ in pack
                                                  if (number, word) not in used])
        folded = packs.folded(reader)
        self.assertIsInstance(folded, Packs)
        self.assertEqual(folded.rows(), folded_of(rows, reader))
        for other in READERS:
            self.assertEqual(made_from(folded.rows(), other), made)
        return len(made), len(words) - len(made)

    def test_both_readers(self):
        told = {}
        for seed in range(1500):
            rows = random_rows(seed, most=12 if seed % 5 == 0 else 4)
            for reader in READERS:
                made, lost = self.check(rows, reader)
                told[reader, made > 0, lost > 0] = told.get((reader, made > 0, lost > 0), 0) + 1
        self.assertEqual(len(told), 8, told)
        self.assertGreater(min(told.values()), 25, told)

    def test_all_of_two_packs_of_two_words(self):
        packs = [[entry for entry in pair if entry] for pair in itertools.product(
            [None, ("a", None), ("a", "b"), ("a", "z")], [None, ("b", None), ("b", "a"), ("b", "z")])]
        apart = {}
        for one, other in itertools.product(packs, packs):
            for reader in READERS:
                self.check([one, other], reader)
                together = made_from([one, other], reader)
                self.assertEqual(Packs([one, other]).lost(reader), [w for w in words_of([one, other]) if w not in together])
                alone = [made_from([one], reader), made_from([other], reader)]
                # What each of both makes alone, both together make, too.
                self.assertLessEqual(set(alone[0]) & set(alone[1]), set(together))
                for word in "ab":
                    key = (reader, word in alone[0] + alone[1], word in together)
                    apart[key] = apart.get(key, 0) + 1
        self.assertEqual(len(apart), 8, apart)

    def test_made_alone_and_lost_together_and_the_other_way_round(self):
        one, other = Packs([ONE]), Packs([[("b", "a")]])
        self.assertEqual([packs.lost("newest") for packs in (one, other, one + other)], [[], ["b"], ["a", "b"]])
        self.assertEqual([packs.lost("own") for packs in (one, other, one + other)], [[], ["b"], []])
        self.assertEqual((other + one).lost("newest"), [])
        self.assertEqual(list((one + other).trail("b", "own")), [(1, "b"), (0, "a"), (0, "b")])
        self.assertEqual(list((one + other).trail("a", "own")), [(0, "a"), (0, "b")])
        self.assertEqual((one + other).folded("own").rows(), [[("a", None), ("b", "a")]])

    def test_a_trail_is_told_or_refused_when_its_first_value_is_asked_for(self):
        packs = Packs([ONE, [("c", "d"), ("e", "f"), ("f", "e"), ("g", "z")]])
        told = packs.trail(word="a", reader="newest")
        self.assertTrue(inspect.isgenerator(told))
        self.assertEqual([next(told), list(told)], [(0, "a"), [(0, "b")]])
        for word in ("c", "e", "f", "g"):
            for reader in READERS:
                lost = packs.trail(word, reader)
                self.refused(Lost, word, next, lost)
                self.refused(Lost, word, list, packs.trail(reader=reader, word=word))
                self.assertIs(packs.makes(reader=reader, word=word), False)
        for word in odd_values() + ["d", "z", "A", "", ["a"], ("a",), b"a"]:
            for reader in READERS:
                told = packs.trail(word, reader)
                self.refused(BadWord, word, next, told)
                self.refused(BadWord, word, packs.makes, word, reader)
            told = packs.trail(word, word)
            self.refused(BadArgument, word, next, told)
        self.refused(BadArgument, "x", next, packs.trail("z", "x"))
        self.refused(BadArgument, "x", packs.makes, "z", "x")

    def test_no_readers(self):
        packs = Packs([ONE, [("c", "d")]] + [[]] * 7)
        for value in NO_READERS + odd_values():
            for act in (packs.lost, packs.needless, packs.folded, packs.least_packs, Packs().lost, Packs().least_packs):
                self.refused(BadArgument, value, act, value)
                self.refused(BadArgument, value, act, reader=value)
            for word in ("a", "c", "z", value):
                self.refused(BadArgument, value, packs.makes, word, value)
                self.refused(BadArgument, value, next, packs.trail(word, value))

    def test_least_packs_held_against_a_search(self):
        told = {}
        for seed in range(500):
            rows = random_rows(seed, most=8 if seed % 3 == 0 else 5, words=4, wholes=0.4)
            for reader in READERS:
                wanted = least_of(rows, reader)
                self.assertEqual(Packs(rows).least_packs(reader=reader), wanted)
                told[min(len(wanted), 4)] = told.get(min(len(wanted), 4), 0) + 1
        self.assertGreater(min(told.get(many, 0) for many in (1, 2, 3, 4)), 10, told)

    def test_least_packs_told(self):
        # The old whole one brings a thing back that is lost with all of them.
        self.assertEqual(Packs([[("a", None)], [("a", "b")]]).least_packs("newest"), [[]])
        self.assertEqual(Packs([ONE, ONE, ONE]).least_packs("own"), [[0], [1], [2]])
        self.assertEqual(Packs([[("a", None)], [("b", None)], [("a", "b")]]).least_packs("newest"), [[0, 1], [1, 2]])
        eight = Packs([[("a", None)], [("b", None)]] * 4)
        self.assertEqual(eight.least_packs("newest"), [[one, two] for one in range(8) for two in range(one + 1, 8)
                                                       if (one + two) % 2])
        nine = Packs([[("a", None)]] * 9)
        for reader in READERS:
            self.refused(BadNumber, 9, nine.least_packs, reader)
            self.assertEqual(Packs([[("a", None)]] * 8).least_packs(reader), [[number] for number in range(8)])

    def test_folded(self):
        packs = Packs([[("a", "b"), ("b", None)], [("b", "c"), ("c", None)], [("d", "b"), ("e", "zz")]])
        self.assertEqual(packs.folded("newest").rows(), [[("a", "b"), ("b", "c"), ("c", None), ("d", "b")]])
        # The first pack has its own b, which is not the newest one.
        self.assertEqual(packs.folded("own").rows(), [[("a", None), ("b", "c"), ("c", None), ("d", "b")]])
        self.assertEqual(packs.folded(reader="own").lost("newest"), [])

    def test_needless(self):
        packs = Packs([[("b", None), ("a", "b"), ("d", None)], [("b", "c"), ("c", None)], [("d", "zz")]])
        self.assertEqual(packs.needless("newest"), [(0, "b"), (0, "d"), (2, "d")])
        self.assertEqual(packs.needless(reader="own"), [(0, "d"), (2, "d")])
        self.assertEqual({type(place) for place in packs.needless("own")}, {tuple})


class TrimmedTest(Case):
    def test_trimmed(self):
        rows = [[("b", None), ("a", "b")], [("a", "zz"), ("c", "a"), ("b", None)]]
        packs = Packs(rows)
        for words, left in (([], rows[1]), (["a"], rows[1][1:]), (("c", "b"), rows[1][:1]), (["a", "c", "b", "a"], [])):
            self.assertEqual(packs.trimmed(number=1, words=words).rows(), [rows[0], left])
        self.assertEqual(packs.trimmed(0, ["b"]).rows(), [[("a", "b")], rows[1]])
        self.assertEqual(packs.rows(), rows)
        self.assertEqual(len(packs.trimmed(0, ("a", "b"))), 2)
        self.assertEqual(packs.trimmed(0, ()), packs)

    def test_many(self):
        for seed in range(200):
            draw = random.Random(seed)
            rows = random_rows(seed)
            for number, pack in enumerate(rows):
                words = draw.sample([word for word, _ in pack], draw.randint(0, len(pack)))
                wanted = [[entry for entry in held if at != number or entry[0] not in words] for at, held in enumerate(rows)]
                self.assertEqual(Packs(rows).trimmed(number, words).rows(), wanted)
            # Without what is needless a reader makes all that it made.
            for reader in READERS:
                packs = Packs(rows)
                for number in range(len(rows)):
                    packs = packs.trimmed(number, [word for at, word in Packs(rows).needless("newest") if at == number])
                self.assertIs(Packs(rows) <= packs, True)

    def test_wrong_values(self):
        packs = Packs([ONE, [("c", None)]])
        for number in [2, -1, -2, 10 ** 30, True, False, None, 1.0, "0", [0], (0,), {}, Nasty(), Angry()] + odd_values()[9:]:
            self.refused(BadNumber, number, packs.trimmed, number, ["a"])
            self.refused(BadNumber, number, packs.trimmed, number, number)
        for words in (["c"], ["a", "c"], ["A"], [""], [None], [["a"]], [("a",)], [1], "a", "ab", {"a": 1}, {"a"}, iter(["a"]), None,
                      ("a", "z"), [Nasty()], ("a", Angry()), 0, True):
            self.refused(BadWord, words, packs.trimmed, 0, words)
            self.refused(BadWord, words, packs.trimmed, words=words, number=0)
        self.refused(BadNumber, 0, Packs().trimmed, 0, [])
        for value in odd_values():
            if not (isinstance(value, (list, tuple)) and len(value) == 0):
                self.refused(BadWord, value, packs.trimmed, 1, value)


class FormsTest(Case):
    def test_packs_of_forms(self):
        forms = {"b": None, "a": "b", "d": "zz", "c": "a"}
        told = packs_of(forms=forms)
        self.assertIsInstance(told, Packs)
        self.assertEqual(told.rows(), [[("a", "b"), ("b", None), ("c", "a"), ("d", "zz")]])
        forms.clear()
        self.assertEqual(len(told.rows()[0]), 4)
        for reader in READERS:
            self.assertEqual(told.lost(reader), ["d"])
        self.assertEqual(packs_of({}).rows(), [[]])
        self.assertEqual(packs_of({"a": "b", "b": "a"}).lost("own"), ["a", "b"])

    def test_no_forms(self):
        for forms in ({"a": "a"}, {"A": None}, {"a": "B"}, {"a": ""}, {"": None}, {1: None}, {"a": 1}, {"a": False}, {None: None},
                      {"a": ["b"]}, {("a",): None}, {"abcdefghi": None}, [("a", None)], (("a", "b"),), "a", {"a"}, Packs()):
            self.refused(BadArgument, forms, packs_of, forms)
        for value in odd_values():
            if not (isinstance(value, dict) and len(value) == 0):
                self.refused(BadArgument, value, packs_of, value)


if __name__ == "__main__":
    unittest.main()
