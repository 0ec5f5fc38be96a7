"""What must go from a rule: sets of repairs that meet wishes, the greatest limits, and the greatest lists of ways."""

from packedbases.chains import longest
from packedbases.errors import BadChange, BadWish
from packedbases.parts import is_smaller_part, sets_below
from packedbases.rings import closes, is_let_round, least_walk, need_packers
from packedbases.rules import GREATEST_LIMIT, is_between, is_integer, need_rule, with_ways
from packedbases.store import MOST_PACKERS
from packedbases.walks import good_walk

MOST_REPAIRS = 8
MOST_WISHES = 6

# The least number that each limit of a repair can have.
LEAST_LIMITS = {"deep": 0, "tall": 1}


class Mend:
    """A rule with a menu of repairs, and wishes that some sets of the repairs meet."""

    def __init__(self, rule, menu, wishes):
        need_rule(rule)
        if not are_repairs(menu, rule):
            raise BadChange(menu)
        if not are_wishes(wishes, rule):
            raise BadWish(wishes)
        self._rule = rule
        self._menu = tuple(menu)
        self._wishes = tuple(wishes)

    def __len__(self):
        return len(self._menu)

    def behind(self, picks):
        """The rule behind a set of repairs, or None if no way would be left."""
        if not is_set(picks, len(self._menu)):
            raise BadChange(picks)
        return mended(self._rule, [self._menu[at] for at in picks])

    def unmet(self, picks):
        """The list of the indexes of the wishes that are not met behind a set of repairs."""
        rule = self.behind(picks)
        return [at for at, wish in enumerate(self._wishes) if rule is None or not meets(rule, wish)]

    def good(self):
        """The sets that have a rule and meet all wishes, by size and then ascending."""
        for picks in sets_below(len(self._menu)):
            if self._is_good(picks):
                yield picks

    def least(self):
        """The list of the good sets of which no smaller part is one, in the same order."""
        sets = list(self.good())
        return [picks for picks in sets if not any([is_smaller_part(part, picks) for part in sets])]

    def _is_good(self, picks):
        rule = self.behind(picks)
        return rule is not None and all([meets(rule, wish) for wish in self._wishes])


def greatest_limits(rule, packers):
    """The list of the widest limits, tuples (deep, tall, free), with which so many packers close no ring."""
    need_rule(rule)
    need_packers(packers)
    # Limits change nothing about walks, and let all shorter rings close if they let a longer one.
    walk = good_walk(rule)
    safe = [limits for limits in all_limits()
            if walk is None or not is_let_round(with_limits(rule, limits), packers, len(walk))]
    return sorted([limits for limits in safe if not any([is_wider(other, limits) for other in safe])], key=str)


def widest(rule, packers):
    """The list of the greatest lists of ways of a rule with which so many packers close no ring."""
    need_rule(rule)
    need_packers(packers)
    safe = []
    seen = {}
    waiting = [tuple(rule.ways())]
    while waiting:
        ways = waiting.pop()
        if not ways or ways in seen:
            continue
        seen[ways] = True
        walk = least_walk(with_ways(rule, list(ways)), packers)
        if walk is None:
            safe.append(list(ways))
        else:
            # What closes no ring has not all ways of this walk.
            waiting.extend([tuple([way for way in ways if way != struck]) for struck in walk])
    return sorted([ways for ways in safe if not any([is_smaller_part(ways, other) for other in safe])], key=str)


def are_repairs(value, rule):
    """Whether a value is a menu of repairs of a rule."""
    if not isinstance(value, list) or len(value) > MOST_REPAIRS:
        return False
    return all([is_repair(repair, rule) for repair in value])


def is_repair(value, rule):
    """Whether a value is a repair of a rule."""
    if not has_text_first(value):
        return False
    if value[0] == "free":
        return len(value) == 1
    if len(value) != 2:
        return False
    if value[0] == "strike":
        return value[1] in rule
    return value[0] in LEAST_LIMITS and is_between(value[1], LEAST_LIMITS[value[0]], GREATEST_LIMIT)


def are_wishes(value, rule):
    """Whether a value is a list of wishes for a rule."""
    if not isinstance(value, list) or len(value) > MOST_WISHES:
        return False
    return all([is_wish(wish, rule) for wish in value])


def is_wish(value, rule):
    """Whether a value is a wish for a rule."""
    if not has_text_first(value) or len(value) < 2:
        return False
    if value[0] == "keeps":
        return len(value) == 2 and value[1] in rule
    if not is_between(value[1], 1, MOST_PACKERS):
        return False
    if value[0] == "ringless":
        return len(value) == 2
    return value[0] == "short" and len(value) == 3 and is_integer(value[2]) and value[2] >= 0


def has_text_first(value):
    """Whether a value is a tuple that begins with a text."""
    return isinstance(value, tuple) and len(value) > 0 and isinstance(value[0], str)


def is_set(value, many):
    """Whether a value is a tuple of indexes below a number, ascending, without doubles."""
    if not isinstance(value, tuple) or not all([is_between(at, 0, many - 1) for at in value]):
        return False
    return all([at < behind for at, behind in zip(value, value[1:])])


def mended(rule, repairs):
    """The rule behind repairs, or None if no way would be left."""
    ways = [way for way in rule.ways() if ("strike", way) not in repairs]
    if not ways:
        return None
    deep = lowest([rule.deep] + [repair[1] for repair in repairs if repair[0] == "deep"])
    tall = lowest([rule.tall] + [repair[1] for repair in repairs if repair[0] == "tall"])
    return with_limits(with_ways(rule, ways), (deep, tall, rule.free or ("free",) in repairs))


def lowest(limits):
    """The lowest of some limits, None if none binds."""
    numbers = [limit for limit in limits if limit is not None]
    return min(numbers, key=int) if numbers else None


def meets(rule, wish):
    """Whether a rule meets a wish."""
    if wish[0] == "ringless":
        return not closes(rule, wish[1])
    if wish[0] == "keeps":
        return wish[1] in rule
    most = longest(rule, wish[1])
    return most is not None and most <= wish[2]


def with_limits(rule, limits):
    """The rule with just these limits."""
    deep, tall, free = limits
    return rule.limited(deep=deep, tall=tall, free=free)


def all_limits():
    """The list of all tuples (deep, tall, free)."""
    numbers = list(range(1, GREATEST_LIMIT + 1))
    return [(deep, tall, free) for deep in [None, 0] + numbers for tall in [None] + numbers for free in (False, True)]


def is_wider(other, limits):
    """Whether other limits are wider than some, and narrower in nothing."""
    return other != limits and all([far >= near for far, near in zip(widths(other), widths(limits))])


def widths(limits):
    """Numbers that are the greater the wider the limits are."""
    deep, tall, free = limits
    beyond = GREATEST_LIMIT + 1
    return (beyond if deep is None else deep, beyond if tall is None else tall, int(not free))
