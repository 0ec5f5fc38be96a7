"""Deeds that write links, each a thing, its base and the way that lets it by, one behind the other."""

from packedbases.rules import LETTERS, SIGN_STANDS, stand_of
from packedbases.walks import STEPS


def word_of(number):
    """An own word for each number below 676."""
    first, second = divmod(number, len(LETTERS))
    return LETTERS[first] + LETTERS[second]


def chain_steps(many, packers):
    """The askings and writings of so many links, from the first on, by a list of one or two packers.

    One packer finds each base whole. Of two packers each asks ahead of the other's writing: it finds the
    thing without a height, too, so that no limit binds them.
    """
    ahead = len(packers) - 1
    steps = []
    for at in range(many + ahead):
        if at < many:
            steps.append(("ask", packers[at % len(packers)], at))
        if at >= ahead:
            steps.append(("write", packers[(at - ahead) % len(packers)]))
    return steps


def chain_by(many, packers):
    """The steps of a chain of so many links, by as many packers as are of use."""
    return chain_steps(many, [1] if packers == 1 else [1, 2])


def ring_by(many, packers):
    """The steps of a ring of so many links, by as many packers as are of use; the last one closes it."""
    if packers == 1:
        return chain_steps(many, [1])
    # The first packer asks while nothing is written, and writes when the others have made the chain.
    others = [2] if packers == 2 else [2, 3]
    return [("ask", 1, many - 1)] + chain_steps(many - 1, others) + [("write", 1)]


def deeds_of(rule, steps, links, marks):
    """The deeds of steps, with the marks that they need; marks are the dicts of numbers of the words."""
    held = {word: dict(marks[word]) for word in marks}
    deeds = []
    for step in steps:
        if step[0] == "ask":
            word, base, way = links[step[2]]
            needed = marks_needed(rule, way, held[word], held[base])
            for measure in needed:
                held[base][measure] = needed[measure]
                deeds.append(("mark", base, measure, needed[measure]))
            deeds.append(("ask", step[1], word, base))
        else:
            deeds.append(("write", step[1]))
    return deeds


def marks_needed(rule, way, marks, base_marks):
    """A dict of the numbers of moving measures that a base must get so that a way lets it by."""
    needed = {}
    for measure, sign in zip(rule.measures(), way[2]):
        stand = stand_of(marks[measure], base_marks[measure])
        if not rule.stays(measure) and stand not in SIGN_STANDS[sign]:
            needed[measure] = marks[measure] + STEPS[sign]
    return needed
