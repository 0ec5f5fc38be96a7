"""Rules compared for all things: which choices of a base each of them lets by."""

from packedbases.cells import cells_of, is_cell
from packedbases.errors import BadArgument
from packedbases.rules import is_integer, limits_hold, need_kin, need_rule

# Where limits part two rules, they do so at a depth and a height of at most so much together: one beyond the
# greatest limit.
GREATEST_SUM = 10


def lets_choice(rule, choice):
    """Whether a rule lets a choice by."""
    need_rule(rule)
    if not is_choice(choice, rule):
        raise BadArgument(choice)
    cell, depth, height, inside = choice
    return cell in cells_of(rule) and limits_hold(rule, depth, height, inside)


def within(one, other):
    """Whether each choice that a rule lets by is let by by the other one, too."""
    need_rule(one)
    need_kin(one, other)
    return cells_of(one) <= cells_of(other) and limits_within(one, other)


def alike(one, other):
    """Whether two rules let the same choices by."""
    return parting(one, other) is None


def parting(one, other):
    """A choice with the least depth and height together that just one rule lets by, behind 0 or 1, or None."""
    need_rule(one)
    need_kin(one, other)
    cells = cells_of(one)
    other_cells = cells_of(other)
    for number, alone in ((0, cells - other_cells), (1, other_cells - cells)):
        if len(alone) > 0:
            # A whole base for a thing on which none leans keeps to all limits.
            return (number, (alone.cells()[0], 0, 0, False))
    for depth, height, inside in small_places():
        lets = limits_hold(one, depth, height, inside)
        if lets != limits_hold(other, depth, height, inside):
            return (0 if lets else 1, (cells.cells()[0], depth, height, inside))
    return None


def is_choice(value, rule):
    """Whether a value is a choice of the kinds and measures of a rule."""
    if not isinstance(value, tuple) or len(value) != 4 or not is_cell(value[0], rule):
        return False
    _, depth, height, inside = value
    if not is_integer(depth) or not is_integer(height) or not isinstance(inside, bool):
        return False
    least = 1 if inside else 0
    return depth >= least and height >= least


def limits_within(one, other):
    """Whether all depths, heights and insides that the limits of one rule let by are let by by the other's, too."""
    for depth, height, inside in small_places():
        if limits_hold(one, depth, height, inside) and not limits_hold(other, depth, height, inside):
            return False
    return True


def small_places():
    """The list of all small depths and heights with inside, by depth and height together."""
    places = []
    for total in range(GREATEST_SUM + 1):
        for depth in range(total + 1):
            places.append((depth, total - depth, False))
            if 1 <= depth < total:
                places.append((depth, total - depth, True))
    return places
