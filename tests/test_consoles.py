"""[2], [24] and the interface of packedbases/consoles.py."""

import random
import unittest

from packedbases.chains import longest
from packedbases.consoles import Console
from packedbases.errors import BadArgument, BadChange, BadCommand, BadRule, NothingLeft, PackError
from packedbases.falling import paper_of
from packedbases.mends import greatest_limits, widest
from packedbases.rings import least_ring
from packedbases.rules import Rule
from packedbases.sessions import Session
from samples import ANY, LESS, SIGNS, odd_values, one_measure, random_rule, round_rule, sparse_rule

BOTH = one_measure(["less", "more"])
TWO = Rule(["a", "b"], {"m": True, "n": False}, [("a", "b", ("less", "any")), ("b", "a", ("upto", "same"))])
GOOD = ["ways", "changes", "falls", "ring 1", "chain 2", "limits 3", "widest 9", "undo", "limit none none free",
        "limit 0 1 bound", "limit 9 9 free", "add k k same", "strike k k less"]
NO_LIMITS = ["limit", "limit 1", "limit 1 1", "limit 1 1 free free", "limit 1 1 loose", "limit 1 1 Free", "limit 1 1 none",
             "limit 10 1 free", "limit 1 10 free", "limit 1 0 free", "limit -1 1 free", "limit +1 1 free", "limit 01 1 free",
             "limit 1 01 free", "limit None 1 free", "limit any 1 free", "limit 1 any free", "limit 1.0 1 free",
             "limit  1 free", "limit 1  free", "limit 1 1 ", "limit free none none", "limits none none free",
             "limit nonenone 1 free", "limit 12 1 bound", "limit 1 12 bound", "limit none none boundfree"]
NO_ROWS = ["", " ", "  ", "ways ways", "ways 1", "Ways", "WAYS", "way", "wayss", "ways\n", "\tways", "changes 0", "falls 1",
           "undo 1", "undo undo", "ring", "ring 0", "ring 10", "ring -1", "ring +1", "ring 01", "ring 1.0", "ring one",
           "ring 1 1", "ring none", "chain", "chain 0", "chain 12", "chain 1 2", "limits", "limits 0", "limits 33",
           "widest", "widest 0", "widest 9 9", "redo", "help", "result", "hold", "ring\t1", "ring 1\n", "1 ring", "ring ",
           "ring  ", "chain x", "add", "strike", "add k", "add k k", "add k k less more", "strike k k", "strike k k less more",
           "add  k k less", "strike k k  less", "add k k same ", " add k k same", "addk k same", "ADD k k same"]


class Case(unittest.TestCase):
    def refused(self, kind, value, act, *parts, **named):
        with self.assertRaises(kind) as caught:
            act(*parts, **named)
        self.assertIs(type(caught.exception), kind)
        field = next(iter(vars(caught.exception).values()))
        self.assertTrue(field is value or kind in (BadChange, BadRule) and field == value, field)


def words_of(way):
    return " ".join([way[0], way[1], *way[2]])


def limits_of(deep, tall, free):
    return f"{'none' if deep is None else deep} {'none' if tall is None else tall} {'free' if free else 'bound'}"


def told_of(rule, many, packers=(1, 2, 9)):
    """What the rows that change nothing answer, by the calls themselves."""
    paper = paper_of(rule)
    told = {"ways": [words_of(way) for way in rule.ways()], "changes": [str(many)],
            "falls": ["never" if paper is None else str(len(paper))]}
    for number in packers:
        least, most = least_ring(rule, number), longest(rule, number)
        told[f"ring {number}"] = ["never" if least is None else str(least)]
        told[f"chain {number}"] = ["none" if most is None else str(most)]
        told[f"limits {number}"] = [limits_of(*limits) for limits in greatest_limits(rule, number)]
        told[f"widest {number}"] = [", ".join(map(words_of, ways)) for ways in widest(rule, number)]
    return told


class ConsoleTest(Case):
    def look(self, console, rule, many, packers=(1, 2, 9)):
        for row, answer in told_of(rule, many, packers).items():
            told = console.execute(row)
            self.assertEqual((type(told), told), (list, answer), row)

    def test_what_is_told(self):
        console = Console(rule=BOTH)
        for row, answer in (("ways", ["k k less", "k k more"]), ("changes", ["0"]), ("falls", ["never"]),
                            ("ring 1", ["2"]), ("chain 1", ["none"]), ("widest 1", ["k k less", "k k more"]),
                            ("limits 1", ["0 none bound", "none 2 bound", "none none free"]), ("limits 3", []),
                            ("strike k k more", []), ("falls", ["1"]), ("ring 9", ["never"]), ("changes", ["1"]),
                            ("limits 2", ["none none bound"]), ("add k k upto", []), ("ways", ["k k less", "k k upto"]),
                            ("widest 2", ["k k less"]), ("limit none 3 free", []), ("chain 1", ["3"]), ("chain 2", ["none"]),
                            ("widest 1", ["k k less, k k upto"]), ("undo", []), ("undo", []), ("undo", []),
                            ("changes", ["0"])):
            self.assertEqual(console.execute(line=row), answer, row)
        with self.assertRaises(NothingLeft):
            console.execute("undo")

    def test_many_rules(self):
        for seed in range(20):
            for rule in (random_rule(seed), round_rule(seed), sparse_rule(seed).limited(deep=seed % 10, free=True)):
                self.look(Console(rule), rule, 0, (1 + seed % 9,))

    def test_each_row_behind_changes_and_behind_undo(self):
        for seed in range(14):
            draw = random.Random(seed)
            rule = random_rule(seed, kinds=2, measures=2, ways=5)
            console, session = Console(rule), Session(rule)
            for _ in range(8):
                way = draw.choice([draw.choice(rule.ways()), (draw.choice(rule.kinds()), draw.choice(rule.kinds()),
                                                              tuple(draw.choice(SIGNS) for _ in rule.measures()))])
                limits = (draw.choice([None, 0, 5, 9]), draw.choice([None, 1, 4, 9]), draw.random() < 0.5)
                row, act = draw.choice([
                    (f"add {words_of(way)}", lambda: session.add(way)), ("undo", session.undo),
                    (f"strike {words_of(way)}", lambda: session.strike(way)),
                    (f"limit {limits_of(*limits)}",
                     lambda: session.limit(**dict(zip(("deep", "tall", "free"), limits))))])
                try:
                    act()
                except PackError as error:
                    with self.assertRaises(type(error)) as caught:
                        console.execute(row)
                    self.assertEqual(vars(caught.exception), vars(error))
                else:
                    self.assertEqual(console.execute(row), [])
                self.look(console, session.result(), len(session), (1 + seed % 2,))

    def test_all_limits(self):
        console = Console(BOTH)
        many = 0
        for deep in [None, *range(10)]:
            for tall in [None, *range(1, 10)]:
                for free in (False, True):
                    self.assertEqual(console.execute(f"limit {limits_of(deep, tall, free)}"), [])
                    many += 1
                    limited = BOTH.limited(deep=deep, tall=tall, free=free)
                    self.assertEqual(console.execute("ring 1"), ["never" if least_ring(limited, 1) is None else "2"])
                    self.assertEqual(console.execute("chain 1"), ["none" if tall is None else str(tall)])
        self.assertEqual(console.execute("changes"), [str(many)])

    def test_rows_that_are_none(self):
        console = Console(BOTH)
        for row in NO_ROWS + NO_LIMITS:
            self.refused(BadCommand, row, console.execute, row)
            self.refused(BadCommand, row, console.execute, line=row)
        self.look(console, BOTH, 0)

    def test_blanks_too_many(self):
        for row in GOOD:
            places = [at for at, letter in enumerate(row) if letter == " "]
            for wrong in [f" {row}", f"{row} "] + [row[:at] + " " + row[at:] for at in places]:
                self.refused(BadCommand, wrong, Console(BOTH).execute, wrong)
            for blank in ("\t", "\n", "_", "\u00a0") if places else ():
                wrong = row.replace(" ", blank)
                self.refused(BadCommand, wrong, Console(BOTH).execute, wrong)

    def test_a_word_too_many_or_too_few(self):
        for row in GOOD:
            long = f"{row} k"
            self.refused(BadCommand, long, Console(BOTH).execute, long)
            if " " in row:
                short = row.rpartition(" ")[0]
                self.refused(BadCommand, short, Console(BOTH).execute, short)
        for row in ("add a b less", "add a b less any any", "strike a b less", "strike a b less any any"):
            self.refused(BadCommand, row, Console(TWO).execute, row)
        self.assertEqual(Console(TWO).execute("add a b less same"), [])
        self.assertEqual(Console(TWO).execute("strike a b less any"), [])

    def test_the_sessions_own_errors_where_the_number_of_words_is_right(self):
        console = Console(BOTH)
        for name in ("add", "strike"):
            for words in ("k l any", "k k none", "K k any", "k k ANY", "a b c", "1 2 3", "k k 1"):
                way = tuple(words.split(" ")[:2]) + (tuple(words.split(" ")[2:]),)
                self.refused(BadChange, way, console.execute, f"{name} {words}")
            # Nothing between two blanks is a word, too.
            self.refused(BadChange, ("", "k", ("any",)), console.execute, f"{name}  k any")
            self.refused(BadChange, ("k", "k", ("",)), console.execute, f"{name} k k ")
            self.refused(BadChange, ("", "", ("",)), console.execute, f"{name}   ")
        self.refused(BadChange, LESS, console.execute, "add k k less")
        self.refused(BadChange, ANY, console.execute, "strike k k any")
        self.refused(BadChange, ("a", "b", ("", "any")), Console(TWO).execute, "add a b  any")
        self.look(console, BOTH, 0)
        only = Console(one_measure(["less"]))
        self.refused(BadChange, LESS, only.execute, "strike k k less")
        with self.assertRaises(NothingLeft):
            only.execute("undo")

    def test_values_that_are_no_text(self):
        console = Console(BOTH)
        for value in odd_values() + [b"ways", ["ways"], ("ways",), {"ways": 1}, 1, None]:
            self.refused(BadCommand, value, console.execute, value)
        self.look(console, BOTH, 0)

    def test_lists_belong_to_the_caller(self):
        console = Console(BOTH)
        for row in GOOD[:7] + ["limit none none bound"]:
            first = console.execute(row)
            first.append("x")
            self.assertEqual(console.execute(row), first[:-1])

    def test_consoles_are_apart_and_the_rule_stays(self):
        one, other = Console(BOTH), Console(BOTH)
        one.execute("strike k k less")
        self.assertEqual((one.execute("ways"), other.execute("ways")), (["k k more"], ["k k less", "k k more"]))
        self.assertEqual(BOTH, one_measure(["less", "more"]))

    def test_no_rules(self):
        for value in odd_values() + [Session(BOTH)]:
            self.refused(BadArgument, value, Console, value)
            self.refused(BadArgument, value, Console, rule=value)

    def test_twelve_ways_five_kinds_and_three_measures(self):
        kinds = ["a", "b", "c", "d", "e"]
        ways = [(kind, base, ("any", "same", sign)) for kind, base in zip(kinds, kinds[1:] + kinds[:1])
                for sign in ("any", "less")]
        rule = Rule(kinds, {"x": True, "y": True, "z": True},
                    ways + [("a", "a", ("less", "any", "any")), ("a", "a", ("more", "any", "any"))])
        console = Console(rule)
        self.look(console, rule, 0)
        full = ("b", "b", ("any", "any", "any"))
        self.refused(BadChange, full, console.execute, "add b b any any any")
        console.execute("strike a a less any any")
        console.execute("add b b any any any")
        self.assertEqual((console.execute("ring 1"), len(console.execute("ways"))), (["2"], 12))


if __name__ == "__main__":
    unittest.main()
