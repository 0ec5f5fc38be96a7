"""Packs of entries, the later ones newer, and the readers that make things again from them."""

from packedbases.errors import BadArgument, BadEntry, BadNumber, BadWord, Lost
from packedbases.forms import in_order
from packedbases.joins import is_form, need_forms
from packedbases.parts import is_smaller_part, sets_below
from packedbases.rules import is_between, is_one_of, is_word

MOST_PACKS = 12
MOST_CHOSEN = 8
NEWEST = "newest"
OWN = "own"


def packs_of(forms):
    """Packs of one pack with the entries of forms, ascending."""
    need_forms(forms)
    held = in_order(forms)
    return Packs([[(word, held[word]) for word in held]])


class Packs:
    """Packs of entries, which never change."""

    def __init__(self, packs=()):
        if not are_packs(packs):
            raise BadEntry(packs)
        self._packs = tuple([tuple([(word, base) for word, base in pack]) for pack in packs])

    @staticmethod
    def wholes(words):
        """Packs with one whole thing in each, one for each of some words."""
        if not isinstance(words, (list, tuple)) or not all([is_word(word) for word in words]):
            raise BadWord(words)
        return Packs([[(word, None)] for word in words])

    def __len__(self):
        return len(self._packs)

    def __contains__(self, x):
        return is_place(x, self._packs)

    def __getitem__(self, at):
        if not is_place(at, self._packs):
            raise BadEntry(at)
        return base_in(self._packs, at)

    def __iter__(self):
        raise TypeError("packs are not iterated over: take rows()")

    def __add__(self, other):
        if not isinstance(other, Packs) or len(self._packs) + len(other._packs) > MOST_PACKS:
            raise BadArgument(other)
        return Packs(self._packs + other._packs)

    def __le__(self, other):
        if not isinstance(other, Packs):
            raise BadArgument(other)
        made = made_words(other._packs, NEWEST)
        return all([word in made for word in made_words(self._packs, NEWEST)])

    def __eq__(self, other):
        return isinstance(other, Packs) and self._packs == other._packs

    def rows(self):
        """The list of the packs, each a list of its entries in their order."""
        return [list(pack) for pack in self._packs]

    def words(self):
        """The list of the words of all entries, ascending."""
        return words_in(self._packs)

    def trail(self, word, reader):
        """The places that a reader goes through, from a thing on."""
        self._need_word(word, reader)
        places = places_read(self._packs, word, reader)
        if places is None:
            raise Lost(word)
        yield from places

    def makes(self, word, reader):
        """Whether a reader makes a thing."""
        self._need_word(word, reader)
        return places_read(self._packs, word, reader) is not None

    def lost(self, reader):
        """The list of the words of the things that are lost to a reader."""
        need_reader(reader)
        made = made_words(self._packs, reader)
        return [word for word in words_in(self._packs) if word not in made]

    def needless(self, reader):
        """The list of the places through which a reader goes for no thing that it makes."""
        need_reader(reader)
        trails = [places_read(self._packs, word, reader) for word in made_words(self._packs, reader)]
        used = {place: True for places in trails for place in places}
        return [(number, word) for number, pack in enumerate(self._packs) for word, _ in pack
                if (number, word) not in used]

    def folded(self, reader):
        """Packs of one pack with the entries of what a reader makes, whole where it reads another than the newest."""
        need_reader(reader)
        made = made_words(self._packs, reader)
        return Packs([[(word, folded_base(self._packs, word, reader)) for word in made]])

    def least_packs(self, reader):
        """The list of all least lists of numbers of packs from which a reader makes just what it makes from all."""
        need_reader(reader)
        if len(self._packs) > MOST_CHOSEN:
            raise BadNumber(len(self._packs))
        wanted = made_words(self._packs, reader)
        kept = [numbers for numbers in sets_below(len(self._packs))
                if made_words([self._packs[number] for number in numbers], reader) == wanted]
        # They are by size, and ascending: all numbers have one figure, so this is the order of the texts.
        return [list(numbers) for numbers in kept if not any([is_smaller_part(part, numbers) for part in kept])]

    def trimmed(self, number, words):
        """The packs without the entries of some words in a pack."""
        if not is_between(number, 0, len(self._packs) - 1):
            raise BadNumber(number)
        pack = self._packs[number]
        if not isinstance(words, (list, tuple)) or not all([is_one_of(word, dict(pack)) for word in words]):
            raise BadWord(words)
        left = tuple([entry for entry in pack if entry[0] not in words])
        return Packs(self._packs[:number] + (left,) + self._packs[number + 1:])

    def _need_word(self, word, reader):
        need_reader(reader)
        if not is_one_of(word, words_in(self._packs)):
            raise BadWord(word)


def need_reader(reader):
    """Refuse a value that is no reader."""
    if not is_one_of(reader, (NEWEST, OWN)):
        raise BadArgument(reader)


def are_packs(value):
    """Whether a value is a list or tuple of packs, at most twelve."""
    if not isinstance(value, (list, tuple)) or len(value) > MOST_PACKS:
        return False
    return all([is_pack(pack) for pack in value])


def is_pack(value):
    """Whether a value is a list or tuple of entries of unlike words."""
    if not isinstance(value, (list, tuple)) or not all([is_entry(entry) for entry in value]):
        return False
    return len(dict(value)) == len(value)


def is_entry(value):
    """Whether a value is a tuple of a word and the word of another thing, or None."""
    return isinstance(value, tuple) and len(value) == 2 and is_word(value[0]) and is_form(value[0], value[1])


def is_place(value, packs):
    """Whether a value is a tuple of the number of a pack and a word in it."""
    if not isinstance(value, tuple) or len(value) != 2 or not is_between(value[0], 0, len(packs) - 1):
        return False
    return is_one_of(value[1], dict(packs[value[0]]))


def words_in(packs):
    """The list of the words of all entries, ascending."""
    return sorted({word: True for pack in packs for word, _ in pack}, key=str)


def base_in(packs, place):
    """The base in the entry at a place, or None."""
    number, word = place
    return dict(packs[number])[word]


def newest_place(packs, word):
    """The place of a word in the newest pack that has it, or None."""
    numbers = [number for number, pack in enumerate(packs) if word in dict(pack)]
    return (numbers[-1], word) if numbers else None


def next_place(packs, place, reader):
    """The place where a reader takes the base of an entry, or None if it is nowhere."""
    base = base_in(packs, place)
    if reader == OWN and base in dict(packs[place[0]]):
        return (place[0], base)
    return newest_place(packs, base)


def places_read(packs, word, reader):
    """The list of the places that a reader goes through from a thing on, or None if the thing is lost to it."""
    places = []
    place = newest_place(packs, word)
    while place is not None and place not in places:
        places.append(place)
        if base_in(packs, place) is None:
            return places
        place = next_place(packs, place, reader)
    return None


def made_words(packs, reader):
    """The list of the words of the things that a reader makes, ascending."""
    return [word for word in words_in(packs) if places_read(packs, word, reader) is not None]


def folded_base(packs, word, reader):
    """The base of the newest entry of a word, or None if a reader takes the base from another place than its newest."""
    place = newest_place(packs, word)
    base = base_in(packs, place)
    return base if base is None or next_place(packs, place, reader) == newest_place(packs, base) else None
