"""Words, signs, ways, and the rules that tell which base is let by for a thing."""

from packedbases.errors import BadArgument, BadKind, BadMeasure, BadNumber, BadRule

LETTERS = "abcdefghijklmnopqrstuvwxyz"
LONGEST_WORD = 8
MOST_KINDS = 5
MOST_MEASURES = 3
MOST_WAYS = 12
GREATEST_LIMIT = 9

# For each sign, how the number of a base may stand to that of the thing.
SIGN_STANDS = {
    "less": ("less",),
    "upto": ("less", "same"),
    "same": ("same",),
    "from": ("same", "more"),
    "more": ("more",),
    "any": ("less", "same", "more"),
}


def is_word(value):
    """Whether a value is a text of one to eight small letters."""
    if not isinstance(value, str) or not 1 <= len(value) <= LONGEST_WORD:
        return False
    return all([letter in LETTERS for letter in value])


def is_integer(value):
    """Whether a value is an integer; True and False are none."""
    return isinstance(value, int) and not isinstance(value, bool)


def is_between(value, least, greatest):
    """Whether a value is an integer from a least one to a greatest one."""
    return is_integer(value) and least <= value <= greatest


def need_number(value, least, greatest):
    """Refuse a value that is no integer from a least one to a greatest one."""
    if not is_between(value, least, greatest):
        raise BadNumber(value)


def is_one_of(value, names):
    """Whether a value is one of some texts."""
    # A value of another kind is not compared, as its == may do anything.
    return isinstance(value, str) and value in names


def has_just_keys(value, names):
    """Whether a value is a dict with just these unlike texts as its keys."""
    if not isinstance(value, dict) or len(value) != len(names):
        return False
    return all([is_one_of(key, names) for key in value])


def are_marks(value, measures):
    """Whether a value is a dict from just these measures to integers."""
    if not has_just_keys(value, measures):
        return False
    return all([is_integer(value[measure]) for measure in measures])


def are_numbers(value, many):
    """Whether a value is a tuple of so many integers."""
    if not isinstance(value, tuple) or len(value) != many:
        return False
    return all([is_integer(number) for number in value])


def are_kinds(value):
    """Whether a value is a list of kinds that a rule can have."""
    if not isinstance(value, list) or not 1 <= len(value) <= MOST_KINDS:
        return False
    return all([is_word(kind) for kind in value]) and len(set(value)) == len(value)


def are_measures(value):
    """Whether a value is a dict of measures that a rule can have."""
    if not isinstance(value, dict) or not 1 <= len(value) <= MOST_MEASURES:
        return False
    if not all([is_word(measure) for measure in value]):
        return False
    return all([isinstance(value[measure], bool) for measure in value])


def is_way(value, kinds, many):
    """Whether a value is a way of these kinds, with so many signs."""
    if not isinstance(value, tuple) or len(value) != 3:
        return False
    kind, base_kind, signs = value
    if not is_one_of(kind, kinds) or not is_one_of(base_kind, kinds):
        return False
    if not isinstance(signs, tuple) or len(signs) != many:
        return False
    return all([isinstance(sign, str) and sign in SIGN_STANDS for sign in signs])


def are_ways(value, kinds, many):
    """Whether a value is a list of ways that a rule of these kinds can have."""
    if not isinstance(value, list) or not 1 <= len(value) <= MOST_WAYS:
        return False
    return all([is_way(way, kinds, many) for way in value]) and len(set(value)) == len(value)


def is_limit(value, least):
    """Whether a value is no limit, or one from a least number on."""
    return value is None or is_between(value, least, GREATEST_LIMIT)


def wrong_part(kinds, measures, ways, deep, tall, free):
    """The name of the first part that is wrong for a rule, or None."""
    if not are_kinds(kinds):
        return "kinds"
    if not are_measures(measures):
        return "measures"
    if not are_ways(ways, kinds, len(measures)):
        return "ways"
    if not is_limit(deep, 0):
        return "deep"
    if not is_limit(tall, 1):
        return "tall"
    if not isinstance(free, bool):
        return "free"
    return None


class Rule:
    """Which bases are let by: kinds, measures, ways and limits, which never change."""

    def __init__(self, kinds, measures, ways, *, deep=None, tall=None, free=False):
        part = wrong_part(kinds, measures, ways, deep, tall, free)
        if part is not None:
            raise BadRule(part)
        self._kinds = tuple(sorted(kinds, key=str))
        self._measures = {measure: measures[measure] for measure in sorted(measures, key=str)}
        # Ways are made anew as plain tuples, as their order is that of their texts.
        plain = [(kind, base_kind, tuple(signs)) for kind, base_kind, signs in ways]
        self._ways = tuple(sorted(plain, key=str))
        self._deep = deep
        self._tall = tall
        self._free = free

    @property
    def deep(self):
        """The greatest depth of a base, or None."""
        return self._deep

    @property
    def tall(self):
        """The most changes one behind the other, or None."""
        return self._tall

    @property
    def free(self):
        """Whether a thing must not be in the chain of its base."""
        return self._free

    def kinds(self):
        """The list of the kinds, ascending."""
        return list(self._kinds)

    def measures(self):
        """The list of the measures, ascending."""
        return list(self._measures)

    def ways(self):
        """The list of the ways, ascending."""
        return list(self._ways)

    def stays(self, measure):
        """Whether no deed changes a measure."""
        if not is_one_of(measure, self._measures):
            raise BadMeasure(measure)
        return self._measures[measure]

    def ways_from(self, kind):
        """The list of the ways of things of a kind, ascending."""
        if not is_one_of(kind, self._kinds):
            raise BadKind(kind)
        return [way for way in self._ways if way[0] == kind]

    def limited(self, *, deep=None, tall=None, free=False):
        """The rule with just these limits."""
        return Rule(list(self._kinds), self._measures, list(self._ways), deep=deep, tall=tall, free=free)

    def lets_by(self, kind, marks, base_kind, base_marks):
        """Whether some way lets by a base for a thing, whatever the limits are."""
        stands = [stand_of(marks[measure], base_marks[measure]) for measure in self._measures]
        return any([takes(way, kind, base_kind, stands) for way in self._ways])

    def __len__(self):
        return len(self._ways)

    def __contains__(self, x):
        return is_way(x, self._kinds, len(self._measures)) and x in self._ways

    def __or__(self, other):
        need_kin(self, other)
        added = [way for way in other._ways if way not in self._ways]
        return with_ways(self, list(self._ways) + added)

    def __and__(self, other):
        need_kin(self, other)
        return with_ways(self, [way for way in self._ways if way in other._ways])

    def __sub__(self, other):
        need_kin(self, other)
        return with_ways(self, [way for way in self._ways if way not in other._ways])

    def __eq__(self, other):
        return (isinstance(other, Rule) and self._kinds == other._kinds
                and self._measures == other._measures and self._ways == other._ways
                and self._deep == other._deep and self._tall == other._tall
                and self._free == other._free)


def need_rule(rule):
    """Refuse a value that is no rule."""
    if not isinstance(rule, Rule):
        raise BadArgument(rule)


def are_kin(rule, other):
    """Whether another value is a rule with the same kinds and measures."""
    return (isinstance(other, Rule) and rule._kinds == other._kinds
            and rule._measures == other._measures)


def need_kin(rule, other):
    """Refuse a value that is no rule with the same kinds and measures."""
    if not are_kin(rule, other):
        raise BadArgument(other)


def with_ways(rule, ways):
    """A rule with other ways; it is refused if there are none or too many."""
    return Rule(list(rule._kinds), rule._measures, ways, deep=rule._deep, tall=rule._tall, free=rule._free)


def stand_of(number, base_number):
    """How the number of a base stands to that of the thing."""
    if base_number < number:
        return "less"
    if base_number > number:
        return "more"
    return "same"


def takes(way, kind, base_kind, stands):
    """Whether a way is from one kind to the other and lets all these stands be."""
    if way[0] != kind or way[1] != base_kind:
        return False
    return all([stand in SIGN_STANDS[sign] for sign, stand in zip(way[2], stands)])


def limits_hold(rule, depth, height, inside):
    """Whether the limits let by a base of a depth for a thing of a height, inside the base's chain or not."""
    if rule.deep is not None and depth > rule.deep:
        return False
    if rule.tall is not None and depth + 1 + height > rule.tall:
        return False
    return not (rule.free and inside)


def staying_places(rule):
    """The places, among the measures ascending, of those that stay."""
    return [place for place, measure in enumerate(rule.measures()) if rule.stays(measure)]
