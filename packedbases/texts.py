"""Words that tell limits, ways and integers, as consoles and texts of rules, scripts and papers have them."""

from packedbases.rules import is_integer

FIGURES = "0123456789"
MOST_FIGURES = 40

# Limits that are None, and how the words for limits end.
NO_LIMIT = "none"
FREEDOMS = ("bound", "free")


def is_short(value):
    """Whether a value is an integer of at most 40 figures."""
    # The text of a number without an end of figures is not asked for.
    return is_integer(value) and -(10 ** 40) < value < 10 ** 40


def number_in(text):
    """The integer of at most 40 figures of which this is just the text, or None."""
    figures = text[1:] if text[:1] == "-" else text
    if not 1 <= len(figures) <= MOST_FIGURES or not all([figure in FIGURES for figure in figures]):
        return None
    number = int(text)
    return number if str(number) == text else None


def way_text(way):
    """The words of a way, with single blanks."""
    kind, base_kind, signs = way
    return " ".join([kind, base_kind] + list(signs))


def way_in(words):
    """A kind, a base kind and signs that words tell, or None if they are too few."""
    if len(words) < 3:
        return None
    return (words[0], words[1], tuple(words[2:]))


def limits_text(deep, tall, free):
    """The three words of limits, with single blanks."""
    return " ".join([limit_text(deep), limit_text(tall), FREEDOMS[int(free)]])


def limit_text(limit):
    """The word of a limit."""
    return NO_LIMIT if limit is None else str(limit)


def limits_in(words):
    """The limits that three words tell, a tuple (deep, tall, free), or None."""
    if len(words) != 3 or words[2] not in FREEDOMS:
        return None
    if not is_limit_word(words[0], 0) or not is_limit_word(words[1], 1):
        return None
    return (limit_in(words[0]), limit_in(words[1]), words[2] == "free")


def is_limit_word(word, least):
    """Whether a word tells no limit, or one figure from a least one on."""
    return word == NO_LIMIT or (len(word) == 1 and word in FIGURES and int(word) >= least)


def limit_in(word):
    """The limit that a word tells."""
    return None if word == NO_LIMIT else int(word)
