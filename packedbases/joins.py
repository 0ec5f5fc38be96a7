"""Joined stores of the same things: forms of the one or of the other, and the rings that they can close."""

from packedbases.errors import BadArgument, BadWord, TooMany
from packedbases.forms import chain_in, in_order, rings_among
from packedbases.rules import is_one_of, is_word, need_kin, need_rule, staying_places
from packedbases.walks import after_way, is_done, state_at

MOST_COMMON = 10


def rings_in(forms):
    """The list of all rings of forms, by their first words."""
    need_forms(forms)
    return rings_among(forms)


def depths_in(forms):
    """A dict from the words to their depths, None where the chain comes to no whole thing."""
    need_forms(forms)
    return {word: depth_among(forms, word) for word in in_order(forms)}


def joined(forms, other, taken):
    """The forms of other for the words that are taken, of words that only it has, and else those of forms."""
    need_forms(forms)
    need_forms(other)
    common = words_of_both(forms, other)
    if not isinstance(taken, list) or not all([is_one_of(word, common) for word in taken]):
        raise BadWord(taken)
    return joined_forms(forms, other, taken)


def joined_ring(rule, other):
    """A good closed walk with fewest ways of two rules, tuples of 1 or 2 and a way, with ways of both, or None."""
    need_rule(rule)
    need_kin(rule, other)
    places = staying_places(rule)
    sided = [(1, way) for way in rule.ways()] + [(2, way) for way in other.ways()]
    walks = {(state_at(kind, places), False, False): [] for kind in rule.kinds()}
    seen = {}
    while walks:
        walks = longer_sided(sided, walks, seen, places)
        done = [walks[key] for key in walks if key[1] and key[2] and is_done(key[0])]
        if done:
            return done[0]
        for key in walks:
            seen[key] = True
    return None


def joins_safely(rule, other):
    """Whether no forms of two stores of the same things, one of each rule, close a ring."""
    return joined_ring(rule, other) is None


def keeps_apart(forms, other):
    """The list of all lists of the fewest words to be taken so that the joined forms have no ring."""
    need_forms(forms)
    need_forms(other)
    common = words_of_both(forms, other)
    if len(common) > MOST_COMMON:
        raise TooMany(MOST_COMMON)
    parts = parts_of(common)
    for many in range(len(common) + 1):
        found = [part for part in parts if len(part) == many and not rings_among(joined_forms(forms, other, part))]
        if found:
            return sorted(found, key=str)
    return []


def is_form(word, base):
    """Whether a value can be the base of a word in forms."""
    return base is None or (is_word(base) and base != word)


def need_forms(forms):
    """Refuse a value that is no dict from words to other words or None."""
    if not isinstance(forms, dict) or not all([is_word(word) for word in forms]):
        raise BadArgument(forms)
    if not all([is_form(word, forms[word]) for word in forms]):
        raise BadArgument(forms)


def depth_among(forms, word):
    """The depth of a word, or None."""
    chain = chain_in(forms, word)
    last = chain[-1]
    return len(chain) - 1 if last in forms and forms[last] is None else None


def words_of_both(forms, other):
    """The list of the words that both forms have, ascending."""
    return [word for word in in_order(forms) if word in other]


def joined_forms(forms, other, taken):
    """Joined forms, the words ascending; all that are taken are words of both."""
    held = in_order({**other, **forms})
    return {word: other[word] if word in taken else held[word] for word in held}


def longer_sided(sided, walks, seen, places):
    """A walk with one more way for each state, with the sides in it, that is not seen yet."""
    longer = {}
    for key in walks:
        state, first, second = key
        for side, way in sided:
            if way[0] == state[1]:
                behind = (after_way(state, way, places), first or side == 1, second or side == 2)
                if behind not in seen:
                    longer.setdefault(behind, walks[key] + [(side, way)])
    return longer


def parts_of(words):
    """The list of all parts of a list of words, each in its order."""
    parts = [[]]
    for word in words:
        parts = parts + [part + [word] for part in parts]
    return parts
