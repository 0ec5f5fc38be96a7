"""Which rules let packers close a ring, of how many things at the least, and by which deeds."""

from packedbases.links import deeds_of, ring_by, word_of
from packedbases.rules import need_number, need_rule
from packedbases.store import MOST_PACKERS
from packedbases.walks import good_walk, ring_marks


def need_packers(packers):
    """Refuse a value that is no number of packers."""
    need_number(packers, 1, MOST_PACKERS)


def most_things(rule, packers):
    """The most things of a ring that the limits let so many packers close: None without a bound, 0 for none."""
    need_rule(rule)
    need_packers(packers)
    if packers == 1:
        return most_for_one(rule)
    if packers == 2 and rule.tall is not None:
        return rule.tall + 1
    return None


def most_for_one(rule):
    """The most things of a ring that the limits let one packer close."""
    if rule.free:
        return 0
    bounds = []
    if rule.deep is not None:
        bounds.append(int(rule.deep) + 1)
    if rule.tall is not None:
        bounds.append((int(rule.tall) + 1) // 2)
    if not bounds:
        return None
    most = min(bounds, key=int)
    return most if most >= 2 else 0


def is_let_round(rule, packers, many):
    """Whether the limits let so many packers close a ring of two things or more."""
    most = most_things(rule, packers)
    return most is None or many <= most


def least_walk(rule, packers):
    """A good closed walk with as few ways as a ring of so many packers can have, or None."""
    need_rule(rule)
    need_packers(packers)
    walk = good_walk(rule)
    if walk is None or not is_let_round(rule, packers, len(walk)):
        return None
    return walk


def least_ring(rule, packers):
    """The fewest things of a ring that so many packers can close, or None."""
    walk = least_walk(rule, packers)
    return None if walk is None else len(walk)


def closes(rule, packers):
    """Whether so many packers can close a ring."""
    return least_walk(rule, packers) is not None


def ring_script(rule, packers):
    """The deeds of so many packers that close a ring of the fewest things, or None."""
    walk = least_walk(rule, packers)
    if walk is None:
        return None
    words = [word_of(at) for at in range(len(walk))]
    marks = dict(zip(words, ring_marks(rule, walk)))
    puts = [("put", word, way[0], tuple(marks[word].values())) for word, way in zip(words, walk)]
    links = list(zip(words, words[1:] + words[:1], walk))
    return puts + deeds_of(rule, ring_by(len(walk), packers), links, marks)
