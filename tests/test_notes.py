"""[1] (h), [2], [25] and the interface of packedbases/notes.py."""

import itertools
import random
import unittest

from packedbases.errors import BadArgument, BadText
from packedbases.falling import is_paper, paper_of
from packedbases.notes import read_paper, read_rule, read_script, write_paper, write_rule, write_script
from packedbases.rules import Rule
from packedbases.store import Store, played
from samples import ANY, KINDS, MEASURES, SIGNS, Angry, Nasty, odd_values, one_measure, random_rule, sparse_rule

BOTH = one_measure(["less", "more"])
FORTY = 10 ** 40 - 1
TEXT = "kinds ox owl\nmeasures age:moves size:stays\nlimits 3 none free\nway ox owl any less\nway ox ox upto same\n"
RULE = Rule(["owl", "ox"], {"size": True, "age": False}, [("ox", "ox", ("upto", "same")), ("ox", "owl", ("any", "less"))],
            deep=3, free=True)
OLDER = Rule(["a", "b"], {"m": True, "n": True}, [("a", "a", ("less", "any")), ("a", "b", ("any", "more")),
                                                   ("b", "b", ("any", "more"))])
PAPER = [({"b": -7, "a": 12}, {"a": ("m", "less"), "b": ("n", "more")})]
NO_NUMBERS = ["-0", "007", "00", "+1", "1.0", "--1", "-", "- 1", "1-", "-01", "0x1", "1_0", "\u0661", "\u00b2", "1e3",
              "1" + "0" * 40, "-1" + "0" * 40, "True", "None"]


class Case(unittest.TestCase):
    def refused(self, kind, value, act, *parts, **named):
        with self.assertRaises(kind) as caught:
            act(*parts, **named)
        self.assertIs(type(caught.exception), kind)
        field = next(iter(vars(caught.exception).values()))
        self.assertTrue(field is value or type(value) is int and type(field) is int and field == value, (field, value))


def rule_text(rule):
    """[25], word for word."""
    rows = ["kinds " + " ".join(sorted(rule.kinds()))]
    rows.append("measures " + " ".join(f"{m}:{'stays' if rule.stays(m) else 'moves'}" for m in sorted(rule.measures())))
    rows.append(f"limits {'none' if rule.deep is None else rule.deep} {'none' if rule.tall is None else rule.tall} "
                f"{'free' if rule.free else 'bound'}")
    for kind, base, signs in sorted(rule.ways(), key=str):
        rows.append(f"way {kind} {base} {' '.join(signs)}")
    return "".join(row + "\n" for row in rows)


def limited_rule(seed):
    draw = random.Random(seed)
    return random_rule(seed).limited(deep=draw.choice([None, *range(10)]), tall=draw.choice([None, *range(1, 10)]),
                                     free=draw.random() < 0.5)


def turned(draw, text):
    """A text that differs a little: lines, words or letters left out, doubled, changed places or changed."""
    def change(parts):
        parts = list(parts)
        at, other = draw.randrange(len(parts)), draw.randrange(len(parts))
        kind = draw.randrange(4)
        if kind == 0:
            del parts[at]
        elif kind == 1:
            parts.insert(other, parts[at])
        elif kind == 2:
            parts[at], parts[other] = parts[other], parts[at]
        else:
            parts[at] = parts[other]
        return parts
    by = draw.choice(["\n", " ", ":", ""])
    if by:
        return by.join(change(text.split(by)))
    if draw.random() < 0.5:
        at = draw.randrange(len(text))
        return text[:at] + draw.choice("akmz:0139 -+,\n\t_") + text[at + draw.randrange(2):]
    return "".join(change(text))


class RuleTest(Case):
    def test_a_rule(self):
        text = "kinds owl ox\n" + TEXT.partition("\n")[2]
        self.assertEqual(write_rule(rule=RULE), text)
        self.assertEqual(read_rule(text=text), RULE)
        self.refused(BadText, TEXT, read_rule, TEXT)

    def test_what_is_written_is_read_back_as_it_was(self):
        for seed in range(300):
            rule = limited_rule(seed)
            text = write_rule(rule)
            self.assertEqual(text, rule_text(rule))
            self.assertEqual(read_rule(text), rule)
            self.assertEqual(write_rule(read_rule(text)), text)

    def test_all_limits(self):
        for deep, tall, free in itertools.product([None, *range(10)], [None, *range(1, 10)], [False, True]):
            rule = BOTH.limited(deep=deep, tall=tall, free=free)
            self.assertEqual(read_rule(write_rule(rule)), rule)
            self.assertIn(f"limits {str(deep).lower()} {str(tall).lower()} {'free' if free else 'bound'}\n", write_rule(rule))

    def test_nothing_is_read_but_what_is_written_just_so(self):
        read = 0
        for seed in range(2500):
            draw = random.Random(seed)
            text = turned(draw, write_rule(limited_rule(seed % 60)))
            try:
                rule = read_rule(text)
            except BadText as error:
                self.assertIs(error.at, text)
            else:
                self.assertEqual(rule_text(rule), text)
                read += 1
        self.assertGreater(read, 20)
        self.assertLess(read, 1000)

    def test_lines_left_out_doubled_and_in_another_order(self):
        for rule in (RULE, BOTH, limited_rule(5)):
            rows = write_rule(rule).splitlines(keepends=True)
            for at, row in enumerate(rows):
                short = "".join(rows[:at] + rows[at + 1:])
                # Without one of its ways it is the text of another rule.
                if at >= 3 and len(rule) > 1:
                    self.assertEqual(len(read_rule(short)), len(rule) - 1)
                else:
                    self.refused(BadText, short, read_rule, short)
                twice = "".join(rows[:at] + [row] + rows[at:])
                self.refused(BadText, twice, read_rule, twice)
            for order in itertools.permutations(rows) if len(rows) < 7 else [rows[::-1]]:
                if list(order) != rows:
                    text = "".join(order)
                    self.refused(BadText, text, read_rule, text)
            for text in ("".join(rows)[:-1], "".join(rows) + "\n", "\n" + "".join(rows), "".join(rows) + "way\n",
                         "".join(rows).replace("\n", "\r\n"), "".join(rows) + " ", " " + "".join(rows)):
                self.refused(BadText, text, read_rule, text)

    def test_texts_that_are_none(self):
        good = write_rule(BOTH)
        self.assertEqual(good, "kinds k\nmeasures m:stays\nlimits none none bound\nway k k less\nway k k more\n")
        for old, new in (("kinds k", "kinds k k"), ("kinds k", "kinds"), ("kinds k", "kinds l k"), ("kinds k", "kind k"),
                         ("kinds k", "kinds k "), ("kinds k", "Kinds k"), ("kinds k", "kinds K"), ("kinds k", "kinds  k"),
                         ("m:stays", "m:stay"), ("m:stays", "m"), ("m:stays", "m:"), ("m:stays", ":stays"),
                         ("m:stays", "m:True"), ("m:stays", "m:stays:moves"), ("m:stays", "m:stays m:stays"),
                         ("m:stays", "m:stays m:moves"), ("m:stays", "n:stays m:stays"), ("m:stays", "m :stays"),
                         ("measures", "measure"), ("none none", "none"), ("none none", "none none none"),
                         ("none none", "none 0"), ("none none", "10 none"), ("none none", "none 10"), ("none none", "-1 none"),
                         ("none none", "01 none"), ("none none", "None none"), ("none none", "any none"), ("bound", "loose"),
                         ("bound", "Free"), ("bound", ""), ("limits", "limit"), ("k k less", "k k"), ("k k less", "k"),
                         ("k k less", ""), ("k k less", "k k less less"), ("k k less", "k l less"), ("k k less", "k k same"),
                         ("k k less", "k k more"), ("k k less", "k k fewer"), ("way k k less", "ways k k less"),
                         ("way k k less", "waykk less"), ("k k less", "k k  less"), ("less\n", "less \n")):
            text = good.replace(old, new, 1)
            self.assertNotEqual(text, good)
            self.refused(BadText, text, read_rule, text)
        for text in ("", "\n", "\n\n\n\n", "kinds k\n", "kinds k\nmeasures m:stays\nlimits none none bound\n", "rule", good * 2,
                     good + good.splitlines(keepends=True)[3]):
            self.refused(BadText, text, read_rule, text)
        self.assertEqual(read_rule(good.replace("stays", "moves")), one_measure(["less", "more"], False))

    def test_five_kinds_three_measures_and_twelve_ways(self):
        ways = [(kind, base, (one, other, "any")) for kind, base in itertools.product(KINDS, KINDS)
                for one, other in itertools.product(SIGNS[:2], SIGNS[:1])]
        stays = {measure: measure != "b" for measure in MEASURES}
        rule = Rule(KINDS, stays, ways[:12], deep=9, tall=9, free=True)
        self.assertEqual(read_rule(write_rule(rule)), rule)
        for kinds, measures, listed in ((KINDS + ["z"], stays, ways[:12]), (KINDS, {**stays, "zz": True}, ways[:12])):
            text = write_rule(rule).replace("\nmeasures", " z\nmeasures") if len(kinds) > 5 else write_rule(rule).replace(
                "\nlimits", " zz:stays\nlimits")
            self.refused(BadText, text, read_rule, text)
        text = write_rule(rule) + "way z z any any any\n"
        self.refused(BadText, text, read_rule, text)
        rows = write_rule(rule).splitlines(keepends=True)
        more = "".join(rows[:3] + sorted([*rows[3:], "way owl ox any any any\n"]))
        self.refused(BadText, more, read_rule, more)

    def test_wrong_values(self):
        for value in odd_values() + [b"kinds k\n", ["kinds k\n"], write_rule(BOTH).encode()]:
            self.refused(BadArgument, value, write_rule, value)
            self.refused(BadText, value, read_rule, value)


SCRIPT = [("put", "ab", "k", (1, -22, 0)), ("put", "b", "k", (5,)), ("mark", "ab", "age", -30), ("ask", 1, "ab", "b"),
          ("write", 1), ("whole", "ab"), ("ask", 9, "b", "ab"), ("stop", 9)]
LINES = "put ab k 1,-22,0\nput b k 5\nmark ab age -30\nask 1 ab b\nwrite 1\nwhole ab\nask 9 b ab\nstop 9\n"
# Deeds that have the form, whatever a store would tell of them.
ODD_DEEDS = [("whole", 5), ("write", "a"), ("stop", -7), ("ask", "a", 5, 0), ("mark", 1, 2, "three"), ("whole", "a" * 50),
             ("whole", FORTY), ("whole", -FORTY), ("put", "abcdefghijkl", "zz", (FORTY, -FORTY)), ("put", "put", "put", (0,)),
             ("ask", FORTY, "ask", -1), ("mark", "mark", "mark", "mark"), ("whole", "none")]
NO_DEEDS = [("whole", FORTY + 1), ("whole", -FORTY - 1), ("put", "a", "k", (FORTY + 1,)), ("put", "a", "k", (1, -FORTY - 1)),
            ("put", "a", "k", ()), ("put", "a", "k", [1]), ("put", "a", "k", 1), ("put", "a", "k", "1"), ("put", "a", "k", (True,)),
            ("put", "a", "k", ("1",)), ("put", "a", "k", (1, None)), ("put", "a", "k", ((1,),)), ("put", 1, "k", (1,)),
            ("put", "a", 2, (1,)), ("put", "", "k", (1,)), ("put", "a", "", (1,)), ("put", "A", "k", (1,)),
            ("put", "a", "k l", (1,)), ("put", "a", "k"), ("put", "a", "k", (1,), 1), ("put", "a", "k", (1.0,)),
            ("whole",), ("whole", "a", "b"), ("whole", ""), ("whole", "A"), ("whole", "a b"), ("whole", "a1"), ("whole", "a\n"),
            ("whole", "\u00e9"), ("whole", "-"), ("whole", None), ("whole", True), ("whole", 1.0), ("whole", ("a",)),
            ("whole", ["a"]), ("whole", (1,)), ("write", False), ("write", (1,)), ("write", 1, 2), ("stop", []), ("stop", {}),
            ("ask", 1, "a"), ("ask", 1, "a", "b", "c"), ("ask", True, "a", "b"), ("ask", 1, None, "b"), ("ask", 1, "a", ("b",)),
            ("mark", "a", "m", (1,)), ("mark", "a", "m", 10 ** 5000), ("mark", "a", "m"), ["whole", "a"], "whole a", ("give", "a"),
            ("Whole", "a"), ("",), (), (None, "a"), (["whole"], "a"), ({}, "a"), (Nasty(), "a"), ("whole", Nasty()),
            (Angry(), "a"), ("whole", Angry()), ("put", "a", "k", Angry()), ("put", "a", "k", (Angry(),)), Nasty(), Angry(), None,
            1, b"whole a", ("whole", b"a")]


class ScriptTest(Case):
    def test_a_script(self):
        self.assertEqual(write_script(script=SCRIPT), LINES)
        told = read_script(text=LINES)
        self.assertEqual((type(told), {type(deed) for deed in told}), (list, {tuple}))
        self.assertEqual(told, SCRIPT)
        told.clear()
        self.assertEqual(read_script(LINES), SCRIPT)
        self.assertEqual((write_script([]), read_script("")), ("", []))

    def test_scripts_of_stores(self):
        for seed in range(120):
            draw = random.Random(seed)
            rule = random_rule(seed, kinds=2)
            store = Store(rule)
            words = draw.sample(["a", "b", "cd", "dc", "abcdefgh"], 4)
            for word in words:
                store.put(word, draw.choice(rule.kinds()),
                          {measure: draw.choice([0, -1, FORTY, -FORTY, draw.randint(-99, 99)]) for measure in rule.measures()})
            for _ in range(30):
                word, base = draw.choice(words), draw.choice(words)
                packer = draw.randint(1, 3)
                moving = [measure for measure in rule.measures() if not rule.stays(measure)]
                if packer in store.pending():
                    draw.choice([store.write, store.stop])(packer)
                elif store.ring() is None and store.lets_by(word, base):
                    store.ask(packer, word, base)
                elif moving and draw.random() < 0.5:
                    store.mark(word, draw.choice(moving), draw.randint(-FORTY, FORTY))
                else:
                    store.whole(word)
            text = write_script(store.script())
            self.assertEqual(read_script(text), store.script())
            self.assertEqual(played(rule, read_script(text)).forms(), store.forms())
            self.assertEqual(text.count("\n"), len(store.script()))

    def test_parts_that_may_be_a_text_or_an_integer(self):
        self.assertEqual(read_script("whole 5\nwrite a\n"), [("whole", 5), ("write", "a")])
        for deed in ODD_DEEDS:
            text = write_script([deed])
            self.assertEqual(text, " ".join(",".join(map(str, part)) if isinstance(part, tuple) else str(part)
                                            for part in deed) + "\n")
            self.assertEqual(read_script(text), [deed])
            self.assertEqual([type(part) for part in read_script(text)[0]], [type(part) for part in deed])
        self.assertEqual(read_script(write_script(ODD_DEEDS)), ODD_DEEDS)

    def test_numbers_of_forty_figures_and_of_forty_one(self):
        for number in (0, 7, -7, 10, FORTY, -FORTY, 10 ** 39, FORTY // 9):
            for line, deed in ((f"write {number}", ("write", number)), (f"put a k {number}", ("put", "a", "k", (number,))),
                               (f"put a k 1,{number},2", ("put", "a", "k", (1, number, 2)))):
                self.assertEqual(read_script(line + "\n"), [deed])
                self.assertEqual(write_script([deed]), line + "\n")
        for wrong in NO_NUMBERS:
            for line in (f"write {wrong}", f"put a k {wrong}", f"put a k 1,{wrong}", f"put a k {wrong},1", f"ask {wrong} a b"):
                self.refused(BadText, 1, read_script, line + "\n")
                self.refused(BadText, 2, read_script, f"whole a\n{line}\nwhole b\n")

    def test_the_first_line_that_is_none(self):
        for line in ("", " ", "whole", "whole  a", "whole a ", " whole a", "whole a b", "Whole a", "whole A", "give a", "write",
                     "write 1 2", "write 1,2", "whole 1,2", "whole a,b", "ask 1 a", "ask 1 a b c", "ask 1  b", "mark a m 1,2",
                     "put a k", "put a k ", "put a k 1 2", "put a k 1,,2", "put a k ,", "put a k ,1", "put a k 1,", "put a k a",
                     "put 1 k 1", "put a 1 1", "put A k 1", "put a k 1, 2", "put  k 1", "put a  1", "whole\ta", "whole a\t",
                     "whole a\r", "whole _", "whole a1", "whole 1a", "whole a-b", "stop", "stop -", "whole \u00e9", "put"):
            self.refused(BadText, 1, read_script, f"{line}\n")
            self.refused(BadText, 1, read_script, f"{line}\n{line}\n")
            self.refused(BadText, 3, read_script, f"whole a\nwrite 1\n{line}\nwhole b\n")
            self.refused(BadText, 3, read_script, f"whole a\nwrite 1\n{line}\n{line}")
            self.refused(BadText, 9, read_script, f"{LINES}{line}\n")

    def test_a_last_line_without_a_line_feed(self):
        self.refused(BadText, 1, read_script, "whole a")
        self.refused(BadText, 2, read_script, "whole a\nwhole b")
        self.refused(BadText, 8, read_script, LINES[:-1])
        self.refused(BadText, 1, read_script, "give a\nwhole b")
        self.refused(BadText, 2, read_script, "whole a\n ")
        self.refused(BadText, 1, read_script, "\n")
        self.refused(BadText, 2, read_script, "whole a\n\n")

    def test_nothing_is_read_but_what_is_written_just_so(self):
        read = 0
        for seed in range(3000):
            draw = random.Random(seed)
            text = turned(draw, draw.choice([LINES, write_script(ODD_DEEDS), "put ab k 1,-22,0\nask 1 ab b\n"]))
            try:
                script = read_script(text)
            except BadText as error:
                lines = text.split("\n")
                ahead = "".join(line + "\n" for line in lines[:error.at - 1])
                self.assertEqual(write_script(read_script(ahead)), ahead)
                if error.at < len(lines):
                    self.refused(BadText, 1, read_script, lines[error.at - 1] + "\n")
                else:
                    self.assertNotEqual(lines[-1], "")
            else:
                self.assertEqual(write_script(script), text)
                read += 1
        self.assertGreater(read, 200)

    def test_wrong_scripts(self):
        for value in odd_values() + [tuple(SCRIPT), {SCRIPT[4]: 1}, iter(SCRIPT), LINES]:
            if not isinstance(value, list):
                self.refused(BadArgument, value, write_script, value)
        for deed in NO_DEEDS:
            self.refused(BadArgument, deed, write_script, [deed])
            self.refused(BadArgument, deed, write_script, SCRIPT + [deed, None])
            self.refused(BadArgument, deed, write_script, script=ODD_DEEDS + [deed] + SCRIPT)

    def test_values_that_are_no_text(self):
        for value in odd_values() + [LINES.encode(), [LINES], SCRIPT]:
            if not isinstance(value, str):
                self.refused(BadText, 0, read_script, value)


def paper_text(rule, paper):
    """[25], word for word."""
    rows = []
    for orders, picks in paper:
        parts = []
        for kind in sorted(rule.kinds()):
            pick = "none" if picks[kind] is None else {"less": "-", "more": "+"}[picks[kind][1]] + picks[kind][0]
            parts.append(f"{kind}:{orders[kind]}:{pick}")
        rows.append(" ".join(parts) + "\n")
    return "".join(rows)


def other_paper(draw, rule, paper):
    """A paper like one, with other orders in the same order, and rows that are not needed."""
    rows = []
    for orders, picks in paper:
        steps = sorted(set(orders.values()))
        numbers = sorted(draw.sample([-FORTY, -10 ** 20, -3, 0, 5, 10, 10 ** 39, FORTY], len(steps)))
        rows.append(({kind: numbers[steps.index(orders[kind])] for kind in draw.sample(list(orders), len(orders))}, picks))
    free = [measure for measure in rule.measures() if rule.stays(measure)]
    for _ in range(draw.randint(0, 2)):
        rows.append(({kind: draw.choice([-1, 0, FORTY]) for kind in rule.kinds()},
                     {kind: draw.choice([None] + [(m, sense) for m in free for sense in ("less", "more")])
                      for kind in rule.kinds()}))
    return rows


class PaperTest(Case):
    def test_a_paper(self):
        self.assertEqual(write_paper(rule=OLDER, paper=PAPER), "a:12:-m b:-7:+n\n")
        self.assertEqual(read_paper(rule=OLDER, text="a:12:-m b:-7:+n\n"), PAPER)
        self.assertEqual(write_paper(OLDER, tuple(PAPER)), "a:12:-m b:-7:+n\n")
        told = read_paper(OLDER, "a:0:-m b:-1:+n\na:0:none b:0:none\n")
        self.assertEqual(told, [({"a": 0, "b": -1}, {"a": ("m", "less"), "b": ("n", "more")}),
                                ({"a": 0, "b": 0}, {"a": None, "b": None})])
        self.assertEqual(([type(row) for row in told], type(told)), ([tuple, tuple], list))
        told[0][0]["a"] = 5
        self.assertEqual(read_paper(OLDER, "a:0:-m b:-1:+n\n")[0][0], {"a": 0, "b": -1})

    def test_what_is_written_is_read_back_as_it_was(self):
        told = {}
        for seed in range(700):
            draw = random.Random(seed)
            rule = sparse_rule(seed)
            paper = paper_of(rule)
            if paper is None:
                continue
            for shown in (paper, other_paper(draw, rule, paper)):
                self.assertIs(is_paper(rule, shown), True)
                text = write_paper(rule, shown)
                self.assertEqual(text, paper_text(rule, shown))
                self.assertEqual(read_paper(rule, text), shown)
                told[len(shown)] = told.get(len(shown), 0) + 1
        self.assertGreater(min(told.get(many, 0) for many in (1, 2, 3)), 10, told)

    def test_numbers_of_forty_and_of_forty_one_figures(self):
        for number in (FORTY, -7, 10 ** 39):
            paper = [({"a": number, "b": -FORTY}, PAPER[0][1])]
            text = f"a:{number}:-m b:{-FORTY}:+n\n"
            self.assertEqual((write_paper(OLDER, paper), read_paper(OLDER, text)), (text, paper))
        for orders in ({"a": FORTY + 1, "b": 0}, {"a": 0, "b": -FORTY - 1}, {"a": 10 ** 5000, "b": 0}):
            for paper in ([(orders, PAPER[0][1])], PAPER + [(orders, PAPER[0][1])]):
                self.assertIs(is_paper(OLDER, paper), True)
                self.refused(BadArgument, paper, write_paper, OLDER, paper)
        for wrong in NO_NUMBERS:
            text = f"a:{wrong}:-m b:-{10 ** 39}:+n\n"
            self.refused(BadText, text, read_paper, OLDER, text)

    def test_texts_that_are_none(self):
        good = "a:12:-m b:-7:+n\n"
        for old, new in (("a:12:-m b:-7:+n", "b:-7:+n a:12:-m"), ("\n", ""), ("\n", "\n\n"), ("-m", "m"), ("-m", "+m"),
                         ("-m", "--m"), ("-m", "-"), ("-m", ""), ("-m", "-o"), ("-m", "None"), ("-m", "-none"), ("12", ""),
                         ("12", "-12"), ("12", "a"), (":-m", ""), ("a:12:-m ", ""), (" b:-7:+n", ""), ("a:", "c:"), ("a:", ":"),
                         ("a:12", "a:12:12"), (" ", "  "), (" ", "\n"), ("+n\n", "+n \n"), ("a:", " a:"), ("b:", "a:"),
                         (" b", " a:12:-m b"), ("a:12:-m", "a:12:none"), ("a", "A"), ("+n", "*n"), ("+n", "-n")):
            text = good.replace(old, new, 1)
            self.assertNotEqual(text, good)
            self.refused(BadText, text, read_paper, OLDER, text)
        for text in ("", "\n", " ", "::\n", "a:0:none b:0:none\n", "a b\n", good + "a:0:none\n", good + "x\n", "\n" + good):
            self.refused(BadText, text, read_paper, OLDER, text)

    def test_texts_of_papers_of_another_rule(self):
        other = Rule(["a", "b"], {"m": False, "n": True}, [("a", "b", ("any", "more"))])
        text = write_paper(OLDER, PAPER)
        self.refused(BadText, text, read_paper, other, text)
        more = OLDER | Rule(["a", "b"], {"m": True, "n": True}, [("b", "a", ("any", "any"))])
        self.refused(BadText, text, read_paper, more, text)
        self.refused(BadText, text, read_paper, BOTH, text)
        self.refused(BadArgument, PAPER, write_paper, more, PAPER)
        texts = {}
        for seed in range(80):
            rule = sparse_rule(seed)
            paper = paper_of(rule)
            if paper is not None:
                texts[write_paper(rule, paper)] = paper
        for seed in range(80):
            rule = sparse_rule(seed)
            for text, paper in texts.items():
                if is_paper(rule, paper):
                    self.assertEqual(read_paper(rule, text), paper)
                else:
                    self.refused(BadText, text, read_paper, rule, text)

    def test_nothing_is_read_but_what_is_written_just_so(self):
        read = 0
        for seed in range(2500):
            draw = random.Random(seed)
            rule = sparse_rule(seed % 100)
            paper = paper_of(rule)
            if paper is None:
                continue
            text = turned(draw, write_paper(rule, other_paper(draw, rule, paper)))
            try:
                told = read_paper(rule, text)
            except BadText as error:
                self.assertIs(error.at, text)
            else:
                self.assertIs(is_paper(rule, told), True)
                self.assertEqual(paper_text(rule, told), text)
                read += 1
        self.assertGreater(read, 50)

    def test_wrong_values(self):
        for value in odd_values():
            self.refused(BadArgument, value, write_paper, value, value)
            self.refused(BadArgument, value, write_paper, value, PAPER)
            self.refused(BadArgument, value, write_paper, OLDER, value)
            self.refused(BadArgument, value, read_paper, value, value)
            self.refused(BadArgument, value, read_paper, value, "a:12:-m b:-7:+n\n")
            self.refused(BadText, value, read_paper, OLDER, value)
        for paper in (PAPER[0], [PAPER], [], (), [({"a": 0, "b": 0}, PAPER[0][1])], [({"a": True, "b": 0}, PAPER[0][1])],
                      [({"a": 1}, PAPER[0][1])], [(PAPER[0][0], {"a": None, "b": None})], "a:12:-m b:-7:+n\n"):
            self.refused(BadArgument, paper, write_paper, OLDER, paper)
        self.refused(BadArgument, PAPER, write_paper, Rule(["k"], {"m": True}, [ANY]), PAPER)


if __name__ == "__main__":
    unittest.main()
