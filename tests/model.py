"""Stores once more, as plainly as [5] and [6] tell of them, and all that can become of a few things."""

import functools
import itertools

from packedbases import errors
from packedbases.rules import is_word
from samples import sign_is_met

COUNTS = {"put": 4, "mark": 4, "whole": 2, "ask": 4, "write": 2, "stop": 2}


def is_integer(value):
    return isinstance(value, int) and not isinstance(value, bool)


def chain_of(bases, word):
    """The words from a thing on, as far as none comes again."""
    chain = []
    while word is not None and word not in chain:
        chain.append(word)
        word = bases[word]
    return chain


def rings_of(bases):
    """All rings, each from its least word on."""
    found = set()
    for word in bases:
        chain = chain_of(bases, word)
        if bases[chain[-1]] is not None:
            ring = chain[chain.index(bases[chain[-1]]):]
            at = ring.index(min(ring))
            found.add(tuple(ring[at:] + ring[:at]))
    return [list(ring) for ring in sorted(found)]


def height_of(bases, word):
    """The most changes one behind the other that lead to a thing."""
    return max(chain_of(bases, other).index(word) for other in bases if word in chain_of(bases, other))


def limits_let(limits, bases, word, base):
    """Whether limits (deep, tall, free) let by a base."""
    deep, tall, free = limits
    chain = chain_of(bases, base)
    depth = len(chain) - 1
    return ((deep is None or depth <= deep) and (tall is None or depth + 1 + height_of(bases, word) <= tall)
            and not (free and word in chain))


def limits_of(rule):
    return rule.deep, rule.tall, rule.free


class Model:
    """A store; do(deed) tells None, or the error and its value."""

    def __init__(self, rule):
        self.rule = rule
        self.kinds, self.marks, self.bases, self.asked, self.script = {}, {}, {}, {}, []

    def way_lets(self, word, base):
        numbers, base_numbers = self.marks[word], self.marks[base]
        return any(way[:2] == (self.kinds[word], self.kinds[base]) and
                   all(sign_is_met(sign, numbers[measure], base_numbers[measure])
                       for sign, measure in zip(way[2], self.rule.measures())) for way in self.rule.ways())

    def lets_by(self, word, base):
        for value in (word, base):
            if not isinstance(value, str) or value not in self.bases:
                return errors.BadThing, value
        if rings_of(self.bases):
            return errors.Ringed, rings_of(self.bases)[0]
        return word != base and self.way_lets(word, base) and limits_let(limits_of(self.rule), self.bases, word, base)

    def wrong_put(self, word, kind, numbers):
        if not is_word(word) or word in self.bases:
            return errors.BadWord, word
        if not isinstance(kind, str) or kind not in self.rule.kinds():
            return errors.BadKind, kind
        if (not isinstance(numbers, tuple) or len(numbers) != len(self.rule.measures())
                or not all(map(is_integer, numbers))):
            return errors.BadMarks, numbers
        return None

    def wrong_mark(self, word, measure, number):
        if not isinstance(word, str) or word not in self.bases:
            return errors.BadThing, word
        if not isinstance(measure, str) or measure not in self.rule.measures() or self.rule.stays(measure):
            return errors.BadMeasure, measure
        return None if is_integer(number) else (errors.BadNumber, number)

    def wrong_ask(self, packer, word, base):
        if not is_integer(packer) or not 1 <= packer <= 9 or packer in self.asked:
            return errors.BadPacker, packer
        told = self.lets_by(word, base)
        return told if isinstance(told, tuple) else None if told else (errors.BadBase, base)

    def wrong(self, deed):
        if (not isinstance(deed, tuple) or not deed or not isinstance(deed[0], str)
                or len(deed) != COUNTS.get(deed[0])):
            return errors.BadDeed, deed
        if deed[0] == "whole":
            known = isinstance(deed[1], str) and deed[1] in self.bases
            return None if known else (errors.BadThing, deed[1])
        if deed[0] in ("write", "stop"):
            known = is_integer(deed[1]) and deed[1] in self.asked
            return None if known else (errors.BadPacker, deed[1])
        return getattr(self, f"wrong_{deed[0]}")(*deed[1:])

    def do(self, deed):
        wrong = self.wrong(deed)
        if wrong:
            return wrong
        name, *parts = deed
        if name == "put":
            word, self.kinds[deed[1]], numbers = parts
            self.marks[word], self.bases[word] = dict(zip(self.rule.measures(), numbers)), None
        elif name == "mark":
            self.marks[parts[0]][parts[1]] = parts[2]
        elif name == "whole":
            self.bases[parts[0]] = None
        elif name == "ask":
            self.asked[parts[0]] = tuple(parts[1:])
        else:
            word, base = self.asked.pop(parts[0])
            if name == "write":
                self.bases[word] = base
        self.script.append(deed)
        return None


def followers(state, leans, limits):
    """The states (bases, what each packer asked) behind all deeds at a state without a ring."""
    bases, asked = state
    forms = dict(enumerate(bases))
    for at, ask in enumerate(asked):
        rest = lambda held: asked[:at] + (held,) + asked[at + 1:]
        if ask is None:
            for word, base in leans:
                if limits_let(limits, forms, word, base):
                    yield bases, rest((word, base))
        else:
            yield bases, rest(None)
            yield bases[:ask[0]] + (ask[1],) + bases[ask[0] + 1:], rest(None)
    for word, base in enumerate(bases):
        if base is not None:
            yield bases[:word] + (None,) + bases[word + 1:], asked


@functools.lru_cache(maxsize=None)
def reached(many, leans, limits, packers):
    """How so many things can stand: the rings that packers can close, the lengths of chains without a ring.

    Things are the numbers from 0 on; leans are the pairs of a thing and one on which it may lean.
    """
    start = (None,) * many, (None,) * packers
    seen, waiting, rings, lengths = {start}, [start], set(), set()
    while waiting:
        state = waiting.pop()
        forms = dict(enumerate(state[0]))
        found = rings_of(forms)
        if found:
            rings.update(map(tuple, found))
            continue
        lengths.add(max(len(chain_of(forms, word)) - 1 for word in forms))
        for behind in followers(state, leans, limits):
            # Which packer asked what does not matter.
            behind = behind[0], tuple(sorted(behind[1], key=str))
            if behind not in seen:
                seen.add(behind)
                waiting.append(behind)
    return frozenset(rings), frozenset(lengths)


def all_leans(many):
    """All sets of pairs of unlike things among so many."""
    pairs = list(itertools.permutations(range(many), 2))
    for chosen in itertools.product([False, True], repeat=len(pairs)):
        yield tuple(pair for pair, held in zip(pairs, chosen) if held)


def lines_of(words, leans):
    """All lines of unlike words, one or more, each of which may lean on the next one."""
    for many in range(1, len(words) + 1):
        for line in itertools.permutations(words, many):
            if all(pair in leans for pair in zip(line, line[1:])):
                yield list(line)
