"""What keepings can lose, shown by the fewest deeds, and what shows that nothing is lost."""

from packedbases.errors import BadArgument
from packedbases.keepings import START, all_keepings, is_lost, is_standing, need_keeping, pairs_at


def loses(keeping):
    """Whether some deeds lose the thing."""
    return any([is_lost(standing) for standing in standings_of(keeping)])


def loss_script(keeping):
    """A list of the fewest deeds that lose the thing, or None."""
    for script in loss_scripts(keeping):
        return script
    return None


def loss_scripts(keeping):
    """All lists of the fewest deeds that lose the thing, in the order of the texts of their deeds."""
    need_keeping(keeping)
    left = deeds_left(keeping)
    lines = [([], START)] if START in left else []
    # The deeds at each standing are in order, so the lines stay in order, too.
    for many in reversed(range(left.get(START, 0))):
        lines = [(deeds + [deed], behind) for deeds, standing in lines
                 for deed, behind in pairs_at(keeping, standing) if left.get(behind) == many]
    for script, _ in lines:
        yield script


def standings_of(keeping):
    """The list of all standings that can be come to."""
    need_keeping(keeping)
    seen = {START: True}
    layer = [START]
    while layer:
        found = {}
        for standing in layer:
            for behind in behind_all(keeping, standing):
                if behind not in seen:
                    found[behind] = True
        for standing in found:
            seen[standing] = True
        layer = list(found)
    return sorted(seen, key=str)


def is_shown(keeping, value):
    """Whether a value is a table that shows that nothing is lost."""
    need_keeping(keeping)
    if not is_table(value) or missing(keeping, value):
        return False
    return not any([is_lost(standing) for standing in value])


def lacking(keeping, table):
    """The list of the standings that a table needs to be closed at the first step."""
    need_keeping(keeping)
    if not is_table(table):
        raise BadArgument(table)
    return missing(keeping, table)


def safe_keepings():
    """The list of all keepings that lose nothing."""
    return [keeping for keeping in all_keepings() if not loses(keeping)]


def is_table(value):
    """Whether a value is a list or tuple of standings."""
    return isinstance(value, (list, tuple)) and all([is_standing(standing) for standing in value])


def behind_all(keeping, standing):
    """The list of the standings behind all deeds at a standing."""
    return [behind for _, behind in pairs_at(keeping, standing)]


def missing(keeping, table):
    """The list of the start and of what the deeds at the standings of a table lead to that is not in it."""
    held = {standing: True for standing in table}
    needed = {START: True}
    for standing in held:
        for behind in behind_all(keeping, standing):
            needed[behind] = True
    return sorted([standing for standing in needed if standing not in held], key=str)


def deeds_left(keeping):
    """A dict from the standings at which the thing can be lost still, or is, to the fewest deeds that do it."""
    standings = standings_of(keeping)
    leads = {standing: behind_all(keeping, standing) for standing in standings}
    left = {}
    found = [standing for standing in standings if is_lost(standing)]
    many = 0
    while found:
        for standing in found:
            left[standing] = many
        found = [standing for standing in standings
                 if standing not in left and any([behind in left for behind in leads[standing]])]
        many += 1
    return left
