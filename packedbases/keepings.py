"""Keepings: how named things are kept while others are dropped, and the deeds with one thing and one base."""

from packedbases.errors import BadArgument
from packedbases.rules import is_one_of

DROPS = ("unnamed", "unused", "unasked", "swept", "looked")
ORDERS = ("new", "old")

# The drops that hang on what a sweeper saw.
SWEEPING = ("swept", "looked")

FORMS = ("whole", "change", "none")

# The forms that can be written.
WRITTEN = ("whole", "change")

# How all begins: form, there, named, based, asked, amid, looked.
START = ("whole", True, True, True, False, None, None)


def all_keepings():
    """All keepings, by drop, then by order, then by stops."""
    for drop in DROPS:
        for order in ORDERS:
            for stops in (False, True):
                yield Keeping(drop, order, stops)


def deeds_at(keeping, standing):
    """The list of all pairs of a deed at a standing and the standing behind it, by the texts of the deeds."""
    need_keeping(keeping)
    if not is_standing(standing):
        raise BadArgument(standing)
    return pairs_at(keeping, standing)


class Keeping:
    """Which things may be dropped, in which order a new form is written, and whether the packer can be stopped."""

    def __init__(self, drop, order, stops):
        if not is_one_of(drop, DROPS):
            raise BadArgument(drop)
        if not is_one_of(order, ORDERS):
            raise BadArgument(order)
        if not isinstance(stops, bool):
            raise BadArgument(stops)
        self.dropping = drop
        self.order = order
        self.stops = stops

    def __eq__(self, other):
        return (isinstance(other, Keeping) and self.dropping == other.dropping
                and self.order == other.order and self.stops == other.stops)


def need_keeping(keeping):
    """Refuse a value that is no keeping."""
    if not isinstance(keeping, Keeping):
        raise BadArgument(keeping)


def is_standing(value):
    """Whether a value is a standing, whether it can be come to or not."""
    if not isinstance(value, tuple) or len(value) != 7:
        return False
    form, there, named, based, asked, amid, looked = value
    if not is_one_of(form, FORMS) or not are_truths((there, named, based, asked)):
        return False
    if amid is not None and not is_one_of(amid, WRITTEN):
        return False
    return looked is None or (isinstance(looked, tuple) and len(looked) == 2 and are_truths(looked))


def are_truths(values):
    """Whether all values are True or False."""
    return all([isinstance(value, bool) for value in values])


def can_be_made(standing):
    """Whether the thing can be made at a standing."""
    form, there, _, _, _, amid, _ = standing
    return form == "whole" or (form == "change" and there) or amid is not None


def is_lost(standing):
    """Whether the thing is lost at a standing."""
    return standing[2] and not can_be_made(standing)


def pairs_at(keeping, standing):
    """The list of all pairs of a deed at a standing and the standing behind it, by the texts of the deeds."""
    if is_lost(standing):
        return []
    pairs = namings(standing) + packings(keeping, standing)
    behind = dict(pairs + sweepings(keeping, standing) + droppings(keeping, standing))
    return [(deed, behind[deed]) for deed in sorted(behind, key=str)]


def namings(standing):
    """The deeds that name and unname, each with the standing behind it."""
    form, there, named, based, asked, amid, looked = standing
    pairs = []
    if named:
        pairs.append((("unname", "thing"), (form, there, False, based, asked, amid, looked)))
    elif can_be_made(standing):
        pairs.append((("name", "thing"), (form, there, True, based, asked, amid, looked)))
    if based:
        pairs.append((("unname", "base"), (form, there, named, False, asked, amid, looked)))
    elif there:
        pairs.append((("name", "base"), (form, there, named, True, asked, amid, looked)))
    return pairs


def packings(keeping, standing):
    """The deeds of the packer, each with the standing behind it."""
    form, there, named, based, asked, amid, looked = standing
    pairs = []
    if amid is not None:
        pairs.append((("finish",), (amid, there, named, based, asked, None, looked)))
    elif asked:
        now, then = written(keeping, "change")
        pairs.append((("write",), (now, there, named, based, False, then, looked)))
    elif form != "none" and there:
        pairs.append((("ask",), (form, there, named, based, True, None, looked)))
    if amid is None and form == "change" and there:
        now, then = written(keeping, "whole")
        pairs.append((("whole",), (now, there, named, based, asked, then, looked)))
    if keeping.stops and (asked or amid is not None):
        pairs.append((("stop",), (form, there, named, based, False, None, looked)))
    return pairs


def written(keeping, form):
    """The form that is there, and what is amid, behind the writing of a form."""
    return (form, None) if keeping.order == "new" else ("none", form)


def sweepings(keeping, standing):
    """The deed of the sweeper, with the standing behind it."""
    form, there, named, based, asked, amid, looked = standing
    if looked is not None:
        return [(("rest",), (form, there, named, based, asked, amid, None))]
    if keeping.dropping not in SWEEPING:
        return []
    used = (named, based or (named and "change" in (form, amid)))
    return [(("look",), (form, there, named, based, asked, amid, used))]


def droppings(keeping, standing):
    """The deeds that drop, each with the standing behind it."""
    form, there, named, based, asked, amid, looked = standing
    pairs = []
    if not named and form != "none" and amid is None and is_unswept(keeping, looked, 0):
        pairs.append((("drop", "thing"), ("none", there, named, based, False, None, looked)))
    if not based and there and lets_base_go(keeping, standing):
        pairs.append((("drop", "base"), (form, False, named, based, asked, amid, looked)))
    return pairs


def is_unswept(keeping, looked, at):
    """Whether the sweeper, if the drop hangs on one, lets the thing (0) or the base (1) go."""
    return keeping.dropping not in SWEEPING or (looked is not None and not looked[at])


def lets_base_go(keeping, standing):
    """Whether the drop lets the base go that is not named."""
    form, _, _, _, asked, amid, looked = standing
    if keeping.dropping == "unused":
        return form != "change"
    if not is_unswept(keeping, looked, 1):
        return False
    return keeping.dropping in ("unnamed", "swept") or not (asked or "change" in (form, amid))
