"""Texts of rules, scripts and papers, which are written, and read back as they were."""

from packedbases.errors import BadArgument, BadText
from packedbases.falling import is_paper
from packedbases.rules import LETTERS, Rule, need_rule, wrong_part
from packedbases.store import has_deed_form
from packedbases.texts import is_short, limits_in, limits_text, number_in, way_in, way_text

STAYS = "stays"
MOVES = "moves"
NO_PICK = "none"

# What stands ahead of the measure of a pick, for each sense, and the sense of each.
SENSE_SIGNS = {"less": "-", "more": "+"}
SIGN_SENSES = {"-": "less", "+": "more"}


def write_rule(rule):
    """The text of a rule."""
    need_rule(rule)
    measures = [measure + ":" + (STAYS if rule.stays(measure) else MOVES) for measure in rule.measures()]
    rows = [["kinds"] + rule.kinds(), ["measures"] + measures, ["limits", limits_text(rule.deep, rule.tall, rule.free)]]
    ways = [["way", way_text(way)] for way in rule.ways()]
    return "".join([" ".join(row) + "\n" for row in rows + ways])


def read_rule(text):
    """The rule of which this is the text."""
    rule = rule_in(text) if isinstance(text, str) else None
    # What was read may have been told in another way than it is written.
    if rule is None or write_rule(rule) != text:
        raise BadText(text)
    return rule


def write_script(script):
    """The text of a script."""
    if not isinstance(script, list):
        raise BadArgument(script)
    for deed in script:
        if not is_written_deed(deed):
            raise BadArgument(deed)
    return "".join([deed_text(deed) + "\n" for deed in script])


def read_script(text):
    """The list of the deeds of which this is the text."""
    if not isinstance(text, str):
        raise BadText(0)
    lines = text.split("\n")
    deeds = [deed_in(line) for line in lines[:-1]]
    for at, deed in enumerate(deeds, start=1):
        if deed is None:
            raise BadText(at)
    if lines[-1] != "":
        raise BadText(len(lines))
    return deeds


def write_paper(rule, paper):
    """The text of a paper of a rule."""
    if not is_paper(rule, paper) or not all([has_short_orders(row) for row in paper]):
        raise BadArgument(paper)
    return "".join([row_text(rule, row) + "\n" for row in paper])


def read_paper(rule, text):
    """The paper of a rule of which this is the text, a list."""
    need_rule(rule)
    paper = [row_in(line) for line in text.split("\n")[:-1]] if isinstance(text, str) else None
    if not is_paper(rule, paper) or write_paper(rule, paper) != text:
        raise BadText(text)
    return paper


def rule_in(text):
    """The rule that the lines of a text tell, or None."""
    rows = [line.split(" ")[1:] for line in text.split("\n")]
    if len(rows) < 4:
        return None
    limits = limits_in(rows[2])
    if limits is None:
        return None
    deep, tall, free = limits
    kinds = rows[0]
    measures = {word.partition(":")[0]: word.partition(":")[2] == STAYS for word in rows[1]}
    ways = [way_in(row) for row in rows[3:-1]]
    if wrong_part(kinds, measures, ways, deep, tall, free) is not None:
        return None
    return Rule(kinds, measures, ways, deep=deep, tall=tall, free=free)


def is_letters(value):
    """Whether a value is a text of small letters, not empty."""
    return isinstance(value, str) and value != "" and all([letter in LETTERS for letter in value])


def is_written_deed(value):
    """Whether a value has the form of a deed that can be written."""
    if not has_deed_form(value):
        return False
    if value[0] != "put":
        return all([is_letters(part) or is_short(part) for part in value[1:]])
    _, word, kind, numbers = value
    return is_letters(word) and is_letters(kind) and are_short(numbers)


def are_short(value):
    """Whether a value is a tuple of one integer or more of at most 40 figures."""
    return isinstance(value, tuple) and len(value) > 0 and all([is_short(number) for number in value])


def deed_text(deed):
    """The line of a deed, without its line feed."""
    return " ".join([part_text(part) for part in deed])


def part_text(part):
    """The word of a part of a deed."""
    if isinstance(part, tuple):
        return ",".join([str(number) for number in part])
    return str(part)


def deed_in(line):
    """The deed that a line tells, or None."""
    words = line.split(" ")
    if words[0] == "put" and len(words) == 4:
        numbers = tuple([number_in(word) for word in words[3].split(",")])
        deed = (words[0], words[1], words[2], numbers)
    else:
        deed = tuple(words[:1] + [part_in(word) for word in words[1:]])
    return deed if is_written_deed(deed) else None


def part_in(word):
    """The text or the integer that a word tells, or None."""
    return word if is_letters(word) else number_in(word)


def has_short_orders(row):
    """Whether all orders of a row have at most 40 figures."""
    orders = row[0]
    return all([is_short(orders[kind]) for kind in orders])


def row_text(rule, row):
    """The line of a row of a paper, without its line feed."""
    orders, picks = row
    return " ".join([f"{kind}:{orders[kind]}:{pick_text(picks[kind])}" for kind in rule.kinds()])


def pick_text(pick):
    """The word of a pick."""
    if pick is None:
        return NO_PICK
    measure, sense = pick
    return SENSE_SIGNS[sense] + measure


def row_in(line):
    """The row that a line tells, orders and picks, or None."""
    parts = [word.split(":") for word in line.split(" ")]
    if not all([len(part) == 3 for part in parts]):
        return None
    return ({part[0]: number_in(part[1]) for part in parts}, {part[0]: pick_in(part[2]) for part in parts})


def pick_in(word):
    """The pick that a word tells; what is none is left to be refused."""
    return None if word == NO_PICK else (word[1:], SIGN_SENSES.get(word[:1]))
