"""Closed walks: ways, one behind the other, that lead back to the kind of the first one."""

from packedbases.errors import BadWalk
from packedbases.rules import SIGN_STANDS, need_rule, staying_places

# The step from the number of a thing to that of its base, where it must not rest.
STEPS = {"less": -1, "upto": 0, "same": 0, "from": 0, "more": 1, "any": 0}

# What no sign at all lets be: neither less nor more, but the same.
NO_SIGNS = (False, False, True)


def is_walk(rule, value):
    """Whether a value is a closed walk of a rule."""
    need_rule(rule)
    if not isinstance(value, (list, tuple)) or len(value) < 2:
        return False
    if not all([way in rule for way in value]):
        return False
    # The way ahead of the first one is the last one, at the index -1.
    return all([value[at - 1][1] == value[at][0] for at in range(len(value))])


def is_good(rule, walk):
    """Whether a closed walk is good: each measure that stays can have numbers around it."""
    if not is_walk(rule, walk):
        raise BadWalk(walk)
    return all([can_be_met(signs_at(walk, place)) for place in staying_places(rule)])


def good_walk(rule):
    """A good closed walk with as few ways as possible, or None."""
    need_rule(rule)
    seen = {}
    walks = shortest_walks(rule)
    while walks:
        done = [walks[state] for state in walks if is_done(state)]
        if done:
            return done[0]
        for state in walks:
            seen[state] = True
        walks = longer_walks(rule, walks, seen)
    return None


def ring_marks(rule, walk):
    """Numbers for the things of a ring along a good closed walk, a dict for each way."""
    if not is_good(rule, walk):
        raise BadWalk(walk)
    measures = rule.measures()
    columns = [ring_numbers(signs_at(walk, place)) for place in range(len(measures))]
    return [{measure: column[at] for measure, column in zip(measures, columns)} for at in range(len(walk))]


def signs_at(walk, place):
    """The signs of one measure along a walk."""
    return [way[2][place] for way in walk]


def with_sign(lets, sign):
    """What signs let be, with one more sign: some less, some more, all of them the same."""
    less, more, same = lets
    stands = SIGN_STANDS[sign]
    return (less or "less" in stands, more or "more" in stands, same and "same" in stands)


def is_met(lets):
    """Whether signs that let this be can be met by a ring of numbers."""
    less, more, same = lets
    return same or (less and more)


def can_be_met(signs):
    """Whether signs, one behind the other, can be met by a ring of numbers."""
    lets = NO_SIGNS
    for sign in signs:
        lets = with_sign(lets, sign)
    return is_met(lets)


def ring_numbers(signs):
    """A ring of numbers that meet signs, one behind the other."""
    if not can_be_met(signs):
        # Only a measure that moves comes here: it is set ahead of each use.
        return [0] * len(signs)
    steps = [STEPS[sign] for sign in signs]
    over = sum(steps)
    if over != 0:
        back = "less" if over > 0 else "more"
        places = [at for at, sign in enumerate(signs) if back in SIGN_STANDS[sign]]
        steps[places[0]] -= over
    return [sum(steps[:at]) for at in range(len(steps))]


def state_at(kind, places):
    """The state of a walk without ways, at a kind."""
    return (kind, kind, tuple([NO_SIGNS] * len(places)))


def after_way(state, way, places):
    """The state of a walk with one more way: where it began, where it ends, what its signs let be."""
    start, _, lets = state
    signs = way[2]
    return (start, way[1], tuple([with_sign(held, signs[place]) for held, place in zip(lets, places)]))


def is_done(state):
    """Whether a walk of two ways or more that has this state is good and closed."""
    start, kind, lets = state
    return start == kind and all([is_met(held) for held in lets])


def shortest_walks(rule):
    """A walk of two ways for each state that such walks have."""
    places = staying_places(rule)
    walks = {}
    for way in rule.ways():
        state = after_way(state_at(way[0], places), way, places)
        for follower in rule.ways_from(way[1]):
            walks.setdefault(after_way(state, follower, places), [way, follower])
    return walks


def longer_walks(rule, walks, seen):
    """A walk with one more way for each state that is not seen yet."""
    places = staying_places(rule)
    longer = {}
    for state in walks:
        for way in rule.ways_from(state[1]):
            behind = after_way(state, way, places)
            if behind not in seen:
                longer.setdefault(behind, walks[state] + [way])
    return longer
