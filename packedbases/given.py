"""Given things: on which of them a thing may lean, their longest chains and least rings, and the deeds."""

from packedbases.chains import is_tall_bound
from packedbases.errors import BadNumber, BadThing, BadWalk, BadWord
from packedbases.links import chain_by, deeds_of, ring_by
from packedbases.rings import is_let_round, need_packers
from packedbases.rules import SIGN_STANDS, are_numbers, is_one_of, is_word, need_rule, staying_places, stand_of

MOST_GIVEN = 8


def are_things(value, rule):
    """Whether a value is a list of given things of a rule."""
    if not isinstance(value, list) or not 1 <= len(value) <= MOST_GIVEN:
        return False
    if not all([is_thing(thing, rule) for thing in value]):
        return False
    return len({thing[0] for thing in value}) == len(value)


def is_thing(value, rule):
    """Whether a value is a tuple of a word, a kind, and a number for each measure."""
    if not isinstance(value, tuple) or len(value) != 3:
        return False
    word, kind, numbers = value
    return is_word(word) and is_one_of(kind, rule.kinds()) and are_numbers(numbers, len(rule.measures()))


def leaning_way(rule, thing, base):
    """The first way that lets a base by for a thing at some moment, each a kind with numbers, or None."""
    places = staying_places(rule)
    for way in rule.ways_from(thing[0]):
        fits = [stand_of(thing[1][at], base[1][at]) in SIGN_STANDS[way[2][at]] for at in places]
        if way[1] == base[0] and all(fits):
            return way
    return None


class Given:
    """Things of which the kinds and numbers are given, under a rule; they never change."""

    def __init__(self, rule, things):
        need_rule(rule)
        if not are_things(things, rule):
            raise BadThing(things)
        self._rule = rule
        plain = {word: (kind, tuple(numbers)) for word, kind, numbers in things}
        self._things = {word: plain[word] for word in sorted(plain, key=str)}
        self._ways = {word: self._ways_of(word) for word in self._things}

    @property
    def rule(self):
        """The rule of the things."""
        return self._rule

    def __len__(self):
        return len(self._things)

    def __contains__(self, x):
        return is_one_of(x, self._things)

    def __getitem__(self, at):
        if not is_one_of(at, self._things):
            raise BadWord(at)
        return self._things[at]

    def __iter__(self):
        raise TypeError("given things are not iterated over: take words()")

    def __eq__(self, other):
        return isinstance(other, Given) and self._rule == other._rule and self._things == other._things

    def words(self):
        """The list of the words, ascending."""
        return list(self._things)

    def bases(self, word):
        """The list of the words of the things on which a thing may lean, ascending."""
        if not is_one_of(word, self._things):
            raise BadWord(word)
        return list(self._ways[word])

    def longest(self, packers):
        """The greatest length of a chain of these things with so many packers, without a ring."""
        return len(self.chain(packers)) - 1

    def chain(self, packers):
        """The words of a chain of the greatest length, the one that leans on the others first."""
        need_packers(packers)
        most = len(self._things) - 1
        if is_tall_bound(self._rule, packers):
            most = min(int(self._rule.tall), most)
        return longest_line(self._ways, most)

    def ring(self, packers):
        """The words of a ring with the fewest things that so many packers can close, or None."""
        need_packers(packers)
        ring = least_round(self._ways)
        if ring is None or not is_let_round(self._rule, packers, len(ring)):
            return None
        return ring

    def deeds(self, words, packers):
        """The deeds behind which a new store has all things, and each word but the last leans on the next."""
        if not self._is_line(words):
            raise BadWalk(words)
        need_packers(packers)
        length = len(words) - 1
        if is_tall_bound(self._rule, packers) and length > self._rule.tall:
            raise BadNumber(length)
        return self._deeds_along(list(zip(words, words[1:])), chain_by(length, packers))

    def ring_deeds(self, words, packers):
        """The same of a ring, which the last deed closes."""
        if not self._is_line(words) or words[0] not in self._ways[words[-1]]:
            raise BadWalk(words)
        need_packers(packers)
        if not is_let_round(self._rule, packers, len(words)):
            raise BadNumber(packers)
        return self._deeds_along(list(zip(words, words[1:] + words[:1])), ring_by(len(words), packers))

    def _ways_of(self, word):
        ways = {base: leaning_way(self._rule, self._things[word], self._things[base])
                for base in self._things if base != word}
        return {base: ways[base] for base in ways if ways[base] is not None}

    def _is_line(self, value):
        if not isinstance(value, list) or not value or not all([is_one_of(word, self._things) for word in value]):
            return False
        if len(set(value)) != len(value):
            return False
        return all([base in self._ways[word] for word, base in zip(value, value[1:])])

    def _deeds_along(self, pairs, steps):
        measures = self._rule.measures()
        puts = [("put", word, kind, numbers) for word, (kind, numbers) in self._things.items()]
        marks = {word: dict(zip(measures, self._things[word][1])) for word in self._things}
        links = [(word, base, self._ways[word][base]) for word, base in pairs]
        return puts + deeds_of(self._rule, steps, links, marks)


def longest_line(bases, most):
    """A line of words, each among the bases of the one ahead, with as many steps as can be, at most so many."""
    lines = [[word] for word in bases]
    for _ in range(most):
        longer = {}
        for line in lines:
            for base in bases[line[-1]]:
                if base not in line:
                    # Lines through the same words to the same end go on alike.
                    longer.setdefault((base, tuple(sorted(line, key=str))), line + [base])
        if not longer:
            break
        lines = list(longer.values())
    return lines[0]


def least_round(bases):
    """A round of as few words as can be, each among the bases of the one ahead, or None."""
    rounds = [round_from(bases, word) for word in bases]
    found = [words for words in rounds if words is not None]
    return min(found, key=len) if found else None


def round_from(bases, start):
    """A round of as few words as can be that begins with a word, or None."""
    lines = [[start]]
    seen = {}
    while lines:
        longer = []
        for line in lines:
            if start in bases[line[-1]]:
                return line
            for base in bases[line[-1]]:
                if base not in seen:
                    seen[base] = True
                    longer.append(line + [base])
        lines = longer
    return None
