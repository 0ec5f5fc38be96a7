"""How long the chains of all stores of a rule grow: bounds, deeds, numbers of walks, and papers."""

from packedbases.errors import BadKind
from packedbases.links import chain_by, deeds_of, word_of
from packedbases.rings import need_packers
from packedbases.rules import is_integer, is_one_of, need_number, need_rule, staying_places
from packedbases.walks import STEPS, after_way, is_done, state_at

LONGEST_WALK = 60
LONGEST_COUNT = 300
LONGEST_GOOD = 30


def longest(rule, packers):
    """The greatest length of a chain with so many packers, None if it is without an end."""
    need_rule(rule)
    need_packers(packers)
    most = longest_walk(rule)
    if not is_tall_bound(rule, packers):
        return most
    return rule.tall if most is None else min(int(rule.tall), int(most))


def chain_walk(rule, length):
    """A walk of so many ways, or None."""
    need_rule(rule)
    need_number(length, 0, LONGEST_WALK)
    walks = {kind: [] for kind in rule.kinds()}
    for _ in range(length):
        walks = one_way_longer(rule, walks)
    starts = list(walks)
    return walks[starts[0]] if starts else None


def chain_deeds(rule, packers, length):
    """The deeds of so many packers behind which a new store has a chain of just so many changes, or None."""
    need_rule(rule)
    need_packers(packers)
    walk = chain_walk(rule, length)
    if walk is None or (is_tall_bound(rule, packers) and length > rule.tall):
        return None
    kinds = [way[0] for way in walk] + [walk[-1][1] if walk else rule.kinds()[0]]
    words = [word_of(at) for at in range(len(kinds))]
    marks = dict(zip(words, chain_marks(rule, walk)))
    puts = [("put", word, kind, tuple(marks[word].values())) for word, kind in zip(words, kinds)]
    links = list(zip(words, words[1:], walk))
    return puts + deeds_of(rule, chain_by(length, packers), links, marks)


def count_walks(rule, kind, length):
    """The number of walks of so many ways that begin at a kind."""
    need_rule(rule)
    if not is_one_of(kind, rule.kinds()):
        raise BadKind(kind)
    need_number(length, 0, LONGEST_COUNT)
    counts = {other: 1 for other in rule.kinds()}
    for _ in range(length):
        counts = counts_behind(rule, counts)
    return counts[kind]


def count_closed(rule, length):
    """The number of walks of so many ways that end at the kind at which they begin."""
    need_rule(rule)
    need_number(length, 1, LONGEST_COUNT)
    total = 0
    for kind in rule.kinds():
        counts = {other: int(other == kind) for other in rule.kinds()}
        for _ in range(length):
            counts = counts_behind(rule, counts)
        total += counts[kind]
    return total


def count_good(rule, length):
    """The number of closed walks of so many ways of which the signs can be met."""
    need_rule(rule)
    need_number(length, 1, LONGEST_GOOD)
    places = staying_places(rule)
    counts = {state_at(kind, places): 1 for kind in rule.kinds()}
    for _ in range(length):
        longer = {}
        for state in counts:
            for way in rule.ways_from(state[1]):
                behind = after_way(state, way, places)
                longer[behind] = longer.get(behind, 0) + counts[state]
        counts = longer
    return sum([counts[state] for state in counts if is_done(state)])


def shown_bound(rule, packers, paper):
    """The length that a paper shows as a bound, or None."""
    need_rule(rule)
    need_packers(packers)
    if not has_paper_form(paper):
        return None
    name, told = paper
    if name == "steps" and are_steps(rule, told):
        return max([int(number) for _, number in told])
    if name == "tall" and is_integer(told) and is_tall_bound(rule, packers) and told == rule.tall:
        return told
    return None


def shows_endless(rule, packers, paper):
    """Whether a paper shows that there is no greatest length."""
    need_rule(rule)
    need_packers(packers)
    if not has_paper_form(paper) or is_tall_bound(rule, packers):
        return False
    name, told = paper
    return name == "walk" and is_round(rule, told)


def chain_paper(rule, packers):
    """A paper that shows just what is told as the greatest length."""
    most = longest(rule, packers)
    if most is None:
        return ("walk", round_walk(rule))
    if is_tall_bound(rule, packers) and most == rule.tall:
        return ("tall", most)
    return ("steps", [(kind, longest_from(rule, kind)) for kind in rule.kinds()])


def is_tall_bound(rule, packers):
    """Whether the limit tall binds the chains of so many packers."""
    return packers == 1 and rule.tall is not None


def longest_from(rule, kind):
    """The most ways of a walk that begins at a kind, None if there are walks of any length."""
    ends = [kind]
    many = 0
    while ends:
        # So many ways come to some kind again, and can then go round.
        if many == len(rule.kinds()):
            return None
        ends = [other for other in rule.kinds() if any([way[0] in ends and way[1] == other for way in rule.ways()])]
        many += 1
    return many - 1


def longest_walk(rule):
    """The most ways of a walk, None if there are walks of any length."""
    lengths = [longest_from(rule, kind) for kind in rule.kinds()]
    return None if None in lengths else max([int(length) for length in lengths])


def round_walk(rule):
    """A walk that ends at the kind at which it begins, of a rule that has walks of any length."""
    walk = chain_walk(rule, len(rule.kinds()))
    kinds = [way[0] for way in walk]
    ends = [way[1] for way in walk]
    starts = [at for at in range(len(walk)) if kinds[at] in ends[at:]]
    start = starts[0]
    return walk[start:ends.index(kinds[start], start) + 1]


def one_way_longer(rule, walks):
    """For each kind that has one, a walk of one way more than the walks of a dict from kinds."""
    longer = {}
    for way in rule.ways():
        if way[1] in walks:
            longer.setdefault(way[0], [way] + walks[way[1]])
    return longer


def chain_marks(rule, walk):
    """Numbers for the things of a chain along a walk, a dict for each thing."""
    marks = [{measure: 0 for measure in rule.measures()}]
    for way in walk:
        ahead = marks[-1]
        marks.append({measure: ahead[measure] + STEPS[sign] for measure, sign in zip(rule.measures(), way[2])})
    return marks


def counts_behind(rule, counts):
    """For each kind the sum of the counts of the kinds to which its ways lead."""
    return {kind: sum([counts[way[1]] for way in rule.ways_from(kind)]) for kind in rule.kinds()}


def has_paper_form(value):
    """Whether a value is a tuple of a text and one more value."""
    return isinstance(value, tuple) and len(value) == 2 and isinstance(value[0], str)


def is_round(rule, value):
    """Whether a value is a list of one way or more, a walk back to the kind at which it begins."""
    if not isinstance(value, list) or not value or not all([way in rule for way in value]):
        return False
    return all([value[at - 1][1] == value[at][0] for at in range(len(value))])


def are_steps(rule, value):
    """Whether a value is a list of a number for each kind that falls along each way."""
    kinds = rule.kinds()
    if not isinstance(value, list) or not all([is_step(row, kinds) for row in value]):
        return False
    numbers = dict(value)
    if len(value) != len(kinds) or len(numbers) != len(kinds):
        return False
    return all([numbers[way[1]] < numbers[way[0]] for way in rule.ways()])


def is_step(value, kinds):
    """Whether a value is a tuple of a kind and an integer from 0 on."""
    if not isinstance(value, tuple) or len(value) != 2:
        return False
    return is_one_of(value[0], kinds) and is_integer(value[1]) and value[1] >= 0
