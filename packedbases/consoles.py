"""Consoles, which answer rows of words about a rule that they change."""

from packedbases.chains import longest
from packedbases.errors import BadCommand
from packedbases.falling import paper_of
from packedbases.mends import greatest_limits, widest
from packedbases.rings import least_ring
from packedbases.sessions import Session
from packedbases.texts import limits_in, limits_text, way_in, way_text

NEVER = "never"
ENDLESS = "none"
PACKERS = ("1", "2", "3", "4", "5", "6", "7", "8", "9")


def tell_ways(session):
    """The words of each way."""
    return [way_text(way) for way in session.result().ways()]


def tell_changes(session):
    """How many changes can be undone."""
    return [str(len(session))]


def tell_falls(session):
    """How many rows the paper has."""
    paper = paper_of(session.result())
    return [NEVER if paper is None else str(len(paper))]


def tell_ring(rule, packers):
    """The fewest things of a ring."""
    least = least_ring(rule, packers)
    return [NEVER if least is None else str(least)]


def tell_chain(rule, packers):
    """The greatest length of a chain."""
    most = longest(rule, packers)
    return [ENDLESS if most is None else str(most)]


def tell_limits(rule, packers):
    """The words of each of the greatest limits."""
    return [limits_text(deep, tall, free) for deep, tall, free in greatest_limits(rule, packers)]


def tell_widest(rule, packers):
    """The words of the ways of each of the greatest lists."""
    return [", ".join([way_text(way) for way in ways]) for ways in widest(rule, packers)]


# What answers a row of one word, about a session, and one of a word and a number of packers, about its rule.
ANSWERS = {"ways": tell_ways, "changes": tell_changes, "falls": tell_falls}
PACKER_ANSWERS = {"ring": tell_ring, "chain": tell_chain, "limits": tell_limits, "widest": tell_widest}


class Console:
    """A session with a rule, and the answers to rows of words about it."""

    def __init__(self, rule):
        self._session = Session(rule)

    def execute(self, line):
        """The list of texts that answers a row of words."""
        words = line.split(" ") if isinstance(line, str) else [""]
        name = words[0]
        if name in ANSWERS and len(words) == 1:
            answer = ANSWERS[name]
            return answer(self._session)
        if name in PACKER_ANSWERS and len(words) == 2 and words[1] in PACKERS:
            packer_answer = PACKER_ANSWERS[name]
            return packer_answer(self._session.result(), int(words[1]))
        if not self._is_change(words):
            raise BadCommand(line)
        self._change(name, words[1:])
        return []

    def _is_change(self, words):
        name = words[0]
        if name in ("add", "strike"):
            return len(words) == len(self._session.result().measures()) + 3
        if name == "limit":
            return limits_in(words[1:]) is not None
        return words == ["undo"]

    def _change(self, name, words):
        if name == "add":
            self._session.add(way_in(words))
        elif name == "strike":
            self._session.strike(way_in(words))
        elif name == "limit":
            deep, tall, free = limits_in(words)
            self._session.limit(deep=deep, tall=tall, free=free)
        else:
            self._session.undo()
