"""Papers: rows of numbers that fall along every base, so that no ring can close."""

from packedbases.errors import BadKind, BadMarks, BadPaper
from packedbases.rules import are_marks, has_just_keys, is_integer, is_one_of, need_rule
from packedbases.walks import can_be_met, signs_at

# For each sense, the signs along which the numbers of a pick never rise.
GOING_SIGNS = {"less": ("less", "same", "upto"), "more": ("more", "same", "from")}

SENSES = ("less", "more")


def paper_of(rule):
    """A paper for a rule, the same for equal rules, or None if there is none."""
    need_rule(rule)
    left = rule.ways()
    paper = []
    while left:
        row = row_for(rule, left)
        if row is None:
            return None
        paper.append(row)
        left = still_left(rule, row, left)
    return paper


def is_paper(rule, value):
    """Whether a value is a paper for a rule."""
    need_rule(rule)
    if not isinstance(value, (list, tuple)) or not all([is_row(rule, row) for row in value]):
        return False
    left = rule.ways()
    for row in value:
        if not all([goes_with(rule, row, way) for way in left]):
            return False
        left = still_left(rule, row, left)
    return not left


def falling(rule, paper, kind, marks):
    """The numbers of a thing that are more than those of each base that is let by for it."""
    if not is_paper(rule, paper):
        raise BadPaper(paper)
    if not is_one_of(kind, rule.kinds()):
        raise BadKind(kind)
    if not are_marks(marks, rule.measures()):
        raise BadMarks(marks)
    numbers = []
    for orders, picks in paper:
        numbers.extend([orders[kind], picked_number(picks[kind], marks)])
    return numbers


def picked_number(pick, marks):
    """The number of a pick's measure, turned so that it falls; 0 for no pick."""
    if pick is None:
        return 0
    measure, sense = pick
    return marks[measure] if sense == "less" else -marks[measure]


def is_row(rule, value):
    """Whether a value has the form of a row."""
    if not isinstance(value, tuple) or len(value) != 2:
        return False
    orders, picks = value
    kinds = rule.kinds()
    if not has_just_keys(orders, kinds) or not has_just_keys(picks, kinds):
        return False
    if not all([is_integer(orders[kind]) for kind in kinds]):
        return False
    return all([picks[kind] is None or is_pick(rule, picks[kind]) for kind in kinds])


def is_pick(rule, value):
    """Whether a value is a measure that stays, with a sense."""
    if not isinstance(value, tuple) or len(value) != 2:
        return False
    measure, sense = value
    if not is_one_of(measure, rule.measures()) or not rule.stays(measure):
        return False
    return is_one_of(sense, SENSES)


def picked_sign(rule, pick, way):
    """The sign of a way for the measure of a pick."""
    return way[2][rule.measures().index(pick[0])]


def goes_with(rule, row, way):
    """Whether the numbers of a row never rise along a way."""
    orders, picks = row
    kind, base_kind, _ = way
    if orders[kind] != orders[base_kind]:
        return orders[base_kind] < orders[kind]
    pick = picks[kind]
    if pick != picks[base_kind]:
        return False
    return pick is None or picked_sign(rule, pick, way) in GOING_SIGNS[pick[1]]


def is_struck(rule, row, way):
    """Whether the numbers of a row that goes with a way always fall along it."""
    orders, picks = row
    kind, base_kind, _ = way
    if orders[kind] != orders[base_kind]:
        return True
    pick = picks[kind]
    return pick is not None and picked_sign(rule, pick, way) == pick[1]


def still_left(rule, row, left):
    """The ways that a row that goes with all of them leaves."""
    return [way for way in left if not is_struck(rule, row, way)]


def row_for(rule, left):
    """A row that goes with all ways that are left and strikes some, or None."""
    kinds = rule.kinds()
    reach = {kind: reached_from(kind, left) for kind in kinds}
    picks = {}
    for kind in kinds:
        inside = [way for way in left if kind in reach[way[1]] and way[0] in reach[kind]]
        picks[kind] = pick_for(rule, inside)
        # A walk along all these ways, and back, is then a good one.
        if inside and picks[kind] is None:
            return None
    # What is led to and does not lead back reaches fewer kinds.
    return ({kind: len(reach[kind]) for kind in kinds}, picks)


def reached_from(kind, ways):
    """The list of the kinds to which ways lead from a kind, that kind ahead of all."""
    reached = [kind]
    at = 0
    while at < len(reached):
        ends = [way[1] for way in ways if way[0] == reached[at]]
        for end in ends:
            if end not in reached:
                reached.append(end)
        at += 1
    return reached


def pick_for(rule, ways):
    """A pick that falls along some ways that all lead back and rises along none, or None."""
    for place, measure in enumerate(rule.measures()):
        signs = signs_at(ways, place)
        if rule.stays(measure) and not can_be_met(signs):
            return (measure, "less" if "less" in signs else "more")
    return None
