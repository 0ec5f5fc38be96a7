"""Dicts from words to the words of their bases, or None for what is whole: chains, heights and rings."""

from packedbases.rules import limits_hold


def chain_in(bases, word):
    """The list of the words from a thing on, each ahead of its base, as far as none comes again."""
    chain = {word: True}
    base = bases[word]
    while base is not None and base not in chain:
        chain[base] = True
        # A base that is not there itself ends the chain.
        base = bases.get(base)
    return list(chain)


def height_in(bases, word):
    """The most changes, one behind the other, that lead to a thing, where there is no ring."""
    height = 0
    leaning = leaning_on(bases, [word])
    while leaning:
        height += 1
        leaning = leaning_on(bases, leaning)
    return height


def leaning_on(bases, words):
    """The list of the words of things of which the bases are among some words."""
    held = {word: True for word in words}
    return [word for word in bases if bases[word] in held]


def forms_let(rule, bases, word, base):
    """Whether the limits let by a base for a thing, by forms without a ring."""
    chain = chain_in(bases, base)
    return limits_hold(rule, len(chain) - 1, height_in(bases, word), word in chain)


def rings_among(bases):
    """The list of all rings, each from its least word on, by their first words."""
    rings = []
    seen = {}
    for start in sorted(bases, key=str):
        path = []
        word = start
        while word in bases and word not in seen:
            seen[word] = start
            path.append(word)
            word = bases[word]
        # What was seen on an earlier path leads to no ring that is not told yet.
        if seen.get(word) == start:
            rings.append(from_least(path[path.index(word):]))
    return sorted(rings, key=str)


def from_least(ring):
    """A ring of words, turned so that it begins with its least word."""
    at = ring.index(min(ring, key=str))
    return ring[at:] + ring[:at]


def in_order(bases):
    """A dict of the same forms, the words ascending."""
    return {word: bases[word] for word in sorted(bases, key=str)}
