"""Rules and values that several tests use."""

import random

from packedbases.errors import PackError
from packedbases.rules import Rule

SIGNS = ["less", "upto", "same", "from", "more", "any"]
KINDS = ["kit", "ox", "owl", "a", "abcdefgh"]
MEASURES = ["age", "b", "size"]
ANY = ("k", "k", ("any",))
LESS = ("k", "k", ("less",))
MORE = ("k", "k", ("more",))


class Nasty:
    """A value that says that it is equal to all, and cannot be a key."""

    __hash__ = None

    def __eq__(self, other):
        return True


class Angry:
    """A value that cannot be compared."""

    __hash__ = None

    def __eq__(self, other):
        raise AssertionError("a value of another kind was compared")


def odd_values():
    """Values that are no rule, way, walk, row, paper, kind, measure or dict of marks."""
    endless = []
    endless.append(endless)
    return [None, True, False, 0, 1, -1, 1.0, "", "any text", b"k", [], (), {}, set(), {1}, frozenset(), object(),
            int, len, [[]], ([],), ({},), {"k": []}, (1, 2), (1, 2, 3), [None, None], (None, None), ("k", "k"),
            ("k", "k", []), ("k", "k", ["any"]), ("k", [], ("any",)), ([], "k", ("any",)), ("k", "k", ([],)),
            endless, (endless,), Nasty(), [Nasty(), Nasty()], (Nasty(), Nasty(), Nasty()), ("k", "k", Nasty()),
            ("k", "k", (Nasty(),)), Angry(), [Angry(), Angry()], (Angry(), Angry(), Angry()),
            ("k", "k", (Angry(),)), range(3), iter([]), 10 ** 50]


def one_measure(signs, stays=True):
    """A rule with one kind and one measure, and a way for each sign."""
    return Rule(["k"], {"m": stays}, [("k", "k", (sign,)) for sign in signs])


def random_rule(seed, kinds=5, measures=3, ways=12, signs=SIGNS):
    """A rule that hangs on its seed alone."""
    draw = random.Random(seed)
    names = draw.sample(KINDS, draw.randint(1, kinds))
    stays = {measure: draw.random() < 0.8 for measure in draw.sample(MEASURES, draw.randint(1, measures))}
    listed = []
    for _ in range(draw.randint(1, ways)):
        way = (draw.choice(names), draw.choice(names), tuple(draw.choice(signs) for _ in stays))
        if way not in listed:
            listed.append(way)
    return Rule(names, stays, listed)


def sparse_rule(seed, ways=12):
    """A rule that often has no good closed walk."""
    draw = random.Random(seed)
    signs = [draw.choice(SIGNS) for _ in range(draw.randint(1, 3))]
    return random_rule(seed, ways=ways, signs=signs)


def round_rule(seed):
    """A rule whose shortest good closed walk is often long."""
    draw = random.Random(seed)
    names = KINDS[:draw.choice([2, 3, 4, 5, 5, 5])]
    stays = {measure: True for measure in MEASURES[:draw.randint(1, 3)]}
    signs = ["less", "more", "less", "more", "same", "same", "upto", "from"]
    pairs = [(kind, names[at - 1]) for at, kind in enumerate(names)]
    pairs += [tuple(draw.sample(names, 2)) for _ in range(draw.randint(0, 4))]
    pairs += [(kind, kind) for kind in draw.sample(names, draw.randint(0, 1))]
    return Rule(names, stays, list({(kind, base, tuple(draw.choice(signs) for _ in stays)): True
                                    for kind, base in pairs}))


def sign_is_met(sign, number, base_number):
    """What [4] says of a sign, written once more."""
    return {"less": base_number < number, "upto": base_number <= number, "same": base_number == number,
            "from": base_number >= number, "more": base_number > number, "any": True}[sign]


def field_of(error):
    """The one value that an error tells of."""
    return next(iter(vars(error).values()))


def told_by(act):
    """What a call tells, or the kind and the value of its error."""
    try:
        return act()
    except PackError as error:
        return type(error), field_of(error)
