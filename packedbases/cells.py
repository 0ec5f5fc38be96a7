"""Cells: how things and bases of each two kinds can stand to one another, and sets of them."""

from packedbases.errors import BadArgument, BadKind, BadMarks
from packedbases.rules import MOST_WAYS, SIGN_STANDS, are_kin, are_marks, is_one_of, need_number, need_rule, stand_of

STANDS = ("less", "same", "more")


def cells_of(rule):
    """The cells that the ways of a rule let by."""
    need_rule(rule)
    cells = []
    for kind, base_kind, signs in rule.ways():
        cells.extend([(kind, base_kind, stands) for stands in choices_of([SIGN_STANDS[sign] for sign in signs])])
    return Cells(rule, cells)


def cell_of(rule, kind, marks, base_kind, base_marks):
    """The cell of a thing and a base."""
    need_rule(rule)
    measures = rule.measures()
    for name, numbers in ((kind, marks), (base_kind, base_marks)):
        if not is_one_of(name, rule.kinds()):
            raise BadKind(name)
        if not are_marks(numbers, measures):
            raise BadMarks(numbers)
    return (kind, base_kind, tuple([stand_of(marks[measure], base_marks[measure]) for measure in measures]))


class Cells:
    """A set of cells of the kinds and measures of a rule, which never changes."""

    def __init__(self, rule, cells):
        need_rule(rule)
        if not isinstance(cells, (list, tuple)) or not all([is_cell(cell, rule) for cell in cells]):
            raise BadArgument(cells)
        self._rule = rule
        plain = {(kind, base_kind, tuple(stands)): True for kind, base_kind, stands in cells}
        self._cells = {cell: True for cell in sorted(plain, key=str)}

    def __len__(self):
        return len(self._cells)

    def __contains__(self, x):
        return is_cell(x, self._rule) and x in self._cells

    def __or__(self, other):
        need_like(self, other)
        return Cells(self._rule, list(self._cells) + list(other._cells))

    def __and__(self, other):
        need_like(self, other)
        return Cells(self._rule, [cell for cell in self._cells if cell in other._cells])

    def __sub__(self, other):
        need_like(self, other)
        return Cells(self._rule, [cell for cell in self._cells if cell not in other._cells])

    def __invert__(self):
        return Cells(self._rule, [cell for cell in all_cells(self._rule) if cell not in self._cells])

    def __le__(self, other):
        need_like(self, other)
        return all([cell in other._cells for cell in self._cells])

    def __eq__(self, other):
        return isinstance(other, Cells) and are_kin(self._rule, other._rule) and self._cells == other._cells

    def __call__(self, kind):
        if not is_one_of(kind, self._rule.kinds()):
            raise BadKind(kind)
        return Cells(self._rule, [cell for cell in self._cells if cell[0] == kind])

    def cells(self):
        """The list of the cells, in the order of their texts."""
        return list(self._cells)

    def ways(self, most=12):
        """As few ways as can be that let by just these cells, or None if there are more than most, or no cell."""
        need_number(most, 1, MOST_WAYS)
        stands = {}
        for kind, base_kind, held in self._cells:
            stands.setdefault((kind, base_kind), []).append(held)
        ways = []
        for kind, base_kind in stands:
            signs = least_signs(stands[(kind, base_kind)], most - len(ways))
            if signs is None:
                return None
            ways.extend([(kind, base_kind, told) for told in signs])
        return sorted(ways, key=str) if ways else None


def is_cell(value, rule):
    """Whether a value is a cell of the kinds and measures of a rule."""
    if not isinstance(value, tuple) or len(value) != 3:
        return False
    kind, base_kind, stands = value
    if not is_one_of(kind, rule.kinds()) or not is_one_of(base_kind, rule.kinds()):
        return False
    if not isinstance(stands, tuple) or len(stands) != len(rule.measures()):
        return False
    return all([is_one_of(stand, STANDS) for stand in stands])


def need_like(cells, other):
    """Refuse a value that is no set of cells of the same kinds and measures."""
    if not isinstance(other, Cells) or not are_kin(cells._rule, other._rule):
        raise BadArgument(other)


def all_cells(rule):
    """The list of all cells of the kinds and measures of a rule."""
    kinds = rule.kinds()
    stands = choices_of([STANDS] * len(rule.measures()))
    return [(kind, base_kind, held) for kind in kinds for base_kind in kinds for held in stands]


def choices_of(columns):
    """The list of all tuples with one member of each column."""
    rows = [()]
    for column in columns:
        rows = [row + (member,) for row in rows for member in column]
    return rows


def least_signs(stands, most):
    """As few tuples of signs as can be that let just these stands be, at most so many, or None."""
    numbers = {held: 1 << at for at, held in enumerate(stands)}
    boxes = greatest_boxes(numbers)
    goal = sum([numbers[held] for held in numbers])
    for many in range(1, most + 1):
        found = covered(goal, boxes, many)
        if found is not None:
            return [boxes[box] for box in found]
    return None


def greatest_boxes(numbers):
    """A dict from the sums of the numbers of stands to the signs that let just them be, where no more can be let."""
    boxes = {}
    for signs in choices_of([tuple(SIGN_STANDS)] * len(list(numbers)[0])):
        held = choices_of([SIGN_STANDS[sign] for sign in signs])
        if all([stands in numbers for stands in held]):
            boxes[sum([numbers[stands] for stands in held])] = signs
    return {box: boxes[box] for box in boxes if not any([box != other and box & other == box for other in boxes])}


def covered(left, boxes, many):
    """A list of at most so many boxes in which all stands that are left are, or None."""
    if left == 0:
        return []
    if least_many(left, boxes) > many:
        return None
    for box in fewest_boxes(left, boxes):
        found = covered(left - (left & box), boxes, many - 1)
        if found is not None:
            return [box] + found
    return None


def least_many(left, boxes):
    """A number of boxes that are needed at the least: one for each of some stands of which no two share a box."""
    many = 0
    while left:
        lowest = left & -left
        for box in boxes:
            if box & lowest:
                left = left - (left & box)
        many += 1
    return many


def fewest_boxes(left, boxes):
    """The boxes of the stand that is left and is in the fewest of them."""
    fewest = list(boxes)
    while left:
        lowest = left & -left
        around = [box for box in boxes if box & lowest]
        if len(around) < len(fewest):
            fewest = around
        left = left - lowest
    return fewest
