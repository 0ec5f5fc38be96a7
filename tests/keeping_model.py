"""Standings once more, as plainly as [20] tells of them: each deed with when it is and what it does."""

import collections
import itertools

Standing = collections.namedtuple("Standing", "form there named based asked amid looked")
TRUTHS = (False, True)
LOOKS = [None, *itertools.product(TRUTHS, TRUTHS)]
ALL_STANDINGS = [Standing(*parts) for parts in itertools.product(
    ["whole", "change", "none"], TRUTHS, TRUTHS, TRUTHS, TRUTHS, [None, "whole", "change"], LOOKS)]
START = ("whole", True, True, True, False, None, None)
DROPS = ["unnamed", "unused", "unasked", "swept", "looked"]


def made(s):
    return s.form == "whole" or (s.form == "change" and s.there) or s.amid is not None


def lost(s):
    return s.named and not made(s)


def used(s):
    """What a sweeper sees: whether the thing, whether the base is used."""
    return s.named, s.based or (s.named and (s.form == "change" or s.amid == "change"))


def base_goes(drop, s):
    """Whether the drop lets a base that is not named go."""
    free = s.form != "change" and s.amid != "change" and not s.asked
    unseen = s.looked is not None and s.looked[1] is False
    return {"unnamed": True, "unused": s.form != "change", "unasked": free, "swept": unseen,
            "looked": unseen and free}[drop]


def thing_goes(drop, s):
    return drop not in ("swept", "looked") or (s.looked is not None and s.looked[0] is False)


def model_deeds(drop, order, stops, s):
    """A dict from the deeds at a standing to the standings behind them."""
    if lost(s):
        return {}
    new = order == "new"
    rows = [
        (("name", "thing"), not s.named and made(s), {"named": True}),
        (("name", "base"), not s.based and s.there, {"based": True}),
        (("unname", "thing"), s.named, {"named": False}),
        (("unname", "base"), s.based, {"based": False}),
        (("ask",), not s.asked and s.amid is None and s.form != "none" and s.there, {"asked": True}),
        (("write",), s.asked and s.amid is None,
         {"asked": False, "form": "change"} if new else {"asked": False, "form": "none", "amid": "change"}),
        (("whole",), s.amid is None and s.form == "change" and s.there,
         {"form": "whole"} if new else {"form": "none", "amid": "whole"}),
        (("finish",), s.amid is not None, {"form": s.amid, "amid": None}),
        (("stop",), stops and (s.asked or s.amid is not None), {"asked": False, "amid": None}),
        (("look",), drop in ("swept", "looked") and s.looked is None, {"looked": used(s)}),
        (("rest",), s.looked is not None, {"looked": None}),
        (("drop", "thing"), not s.named and s.form != "none" and s.amid is None and thing_goes(drop, s),
         {"form": "none", "asked": False}),
        (("drop", "base"), not s.based and s.there and base_goes(drop, s), {"there": False}),
    ]
    return {deed: s._replace(**parts) for deed, holds, parts in rows if holds}


def model_reached(drop, order, stops):
    """All standings that can be come to."""
    seen, waiting = {Standing(*START)}, [Standing(*START)]
    while waiting:
        for behind in model_deeds(drop, order, stops, waiting.pop()).values():
            if behind not in seen:
                seen.add(behind)
                waiting.append(behind)
    return seen


def model_scripts(drop, order, stops, most):
    """All lists of the fewest deeds that lose the thing, at most so many, found by trying all deeds."""
    lines = [([], Standing(*START))]
    for _ in range(most + 1):
        found = [deeds for deeds, s in lines if lost(s)]
        if found:
            return found
        lines = [(deeds + [deed], behind) for deeds, s in lines
                 for deed, behind in model_deeds(drop, order, stops, s).items()]
    return []
