"""Parts of lists: sets of indexes, and whether one list is a part of a longer one."""


def sets_below(many):
    """The list of all ascending tuples of unlike indexes below a number, by size and then ascending."""
    sets = [()]
    layer = [()]
    for _ in range(many):
        layer = [picks + (at,) for picks in layer for at in range(many) if not picks or at > picks[-1]]
        sets = sets + layer
    return sets


def is_smaller_part(part, whole):
    """Whether all members of a part are in a whole that has more."""
    return len(part) < len(whole) and all([member in whole for member in part])
