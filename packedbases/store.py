"""Stores of things that are kept whole or as changes of others, and the deeds of their packers."""

from packedbases.errors import BadBase, BadDeed, BadKind, BadMarks, BadMeasure, BadNumber
from packedbases.errors import BadPacker, BadThing, BadWord, Lost, Ringed
from packedbases.forms import chain_in, forms_let, height_in, in_order, rings_among
from packedbases.rules import are_marks, are_numbers, is_between, is_integer, is_one_of, is_word, need_rule

MOST_PACKERS = 9

# For the first text of each deed, how many parts it has.
DEED_PARTS = {"put": 4, "mark": 4, "whole": 2, "ask": 4, "write": 2, "stop": 2}


def has_deed_form(value):
    """Whether a value is a tuple with the first text of a deed and as many parts."""
    if not isinstance(value, tuple) or not value or not isinstance(value[0], str):
        return False
    return value[0] in DEED_PARTS and len(value) == DEED_PARTS[value[0]]


def need_new(rule, held, word, kind):
    """Refuse what is no word or is held already, then what is no kind of the rule."""
    if not is_word(word) or word in held:
        raise BadWord(word)
    if not is_one_of(kind, rule.kinds()):
        raise BadKind(kind)


def need_marks(rule, marks):
    """Refuse what is no dict of just the measures of the rule."""
    if not are_marks(marks, rule.measures()):
        raise BadMarks(marks)


def need_move(rule, measure, number):
    """Refuse what is no measure that moves, then what is no number for it."""
    # What is no measure at all is refused by the rule itself, with the same error.
    if rule.stays(measure):
        raise BadMeasure(measure)
    if not is_integer(number):
        raise BadNumber(number)


def played(rule, script):
    """A store in which the deeds of a script were done, from an empty one on."""
    store = Store(rule)
    if not isinstance(script, list):
        raise BadDeed(script)
    for deed in script:
        store.do(deed)
    return store


class Store:
    """Things under a rule, their bases, what packers have asked, and the deeds that were done."""

    def __init__(self, rule):
        need_rule(rule)
        self._rule = rule
        self._kinds = {}
        self._marks = {}
        self._bases = {}
        self._asked = {}
        self._done = []

    @property
    def rule(self):
        """The rule of the store."""
        return self._rule

    def __len__(self):
        return len(self._bases)

    def __contains__(self, x):
        return is_one_of(x, self._bases)

    def words(self):
        """The list of the words of the things, ascending."""
        return sorted(self._bases, key=str)

    def kind_of(self, word):
        """The kind of a thing."""
        self._need_thing(word)
        return self._kinds[word]

    def marks_of(self, word):
        """The numbers of a thing, a dict from the measures."""
        self._need_thing(word)
        return dict(self._marks[word])

    def base_of(self, word):
        """The base of a thing, or None if it is whole."""
        self._need_thing(word)
        return self._bases[word]

    def chain(self, word):
        """The list of the words from a thing on, as far as none comes again."""
        self._need_thing(word)
        return chain_in(self._bases, word)

    def depth(self, word):
        """The number of changes from a thing to a whole one."""
        chain = self.chain(word)
        if self._bases[chain[-1]] is not None:
            raise Lost(word)
        return len(chain) - 1

    def height(self, word):
        """The most changes, one behind the other, that lead to a thing."""
        self._need_thing(word)
        self._need_no_ring()
        return height_in(self._bases, word)

    def forms(self):
        """A dict from the words, ascending, to their bases or None."""
        return in_order(self._bases)

    def pending(self):
        """A dict from the packers, ascending, to the words and bases that they have asked."""
        return {packer: self._asked[packer] for packer in sorted(self._asked, key=int)}

    def ring(self):
        """The ring with the least word, a list from that word on, or None."""
        rings = rings_among(self._bases)
        return rings[0] if rings else None

    def script(self):
        """The list of the deeds that were done."""
        return list(self._done)

    def lets_by(self, word, base):
        """Whether a base is let by for a thing now."""
        self._need_thing(word)
        self._need_thing(base)
        self._need_no_ring()
        if word == base:
            return False
        told = self._rule.lets_by(self._kinds[word], self._marks[word], self._kinds[base], self._marks[base])
        return told and forms_let(self._rule, self._bases, word, base)

    def put(self, word, kind, marks):
        """Put a new whole thing."""
        need_new(self._rule, self._bases, word, kind)
        need_marks(self._rule, marks)
        measures = self._rule.measures()
        self._kinds[word] = kind
        self._marks[word] = {measure: marks[measure] for measure in measures}
        self._bases[word] = None
        self._done.append(("put", word, kind, tuple([marks[measure] for measure in measures])))

    def mark(self, word, measure, number):
        """Set a number of a measure that moves."""
        self._need_thing(word)
        need_move(self._rule, measure, number)
        self._marks[word][measure] = number
        self._done.append(("mark", word, measure, number))

    def whole(self, word):
        """Keep a thing whole from now on."""
        self._need_thing(word)
        self._bases[word] = None
        self._done.append(("whole", word))

    def ask(self, packer, word, base):
        """Let a packer choose a base for a thing."""
        if not is_between(packer, 1, MOST_PACKERS) or packer in self._asked:
            raise BadPacker(packer)
        if not self.lets_by(word, base):
            raise BadBase(base)
        self._asked[packer] = (word, base)
        self._done.append(("ask", packer, word, base))

    def write(self, packer):
        """Let a packer write what it asked, whatever has become of it meanwhile."""
        self._need_asked(packer)
        word, base = self._asked.pop(packer)
        self._bases[word] = base
        self._done.append(("write", packer))

    def stop(self, packer):
        """Let a packer forget what it asked."""
        self._need_asked(packer)
        self._asked.pop(packer)
        self._done.append(("stop", packer))

    def do(self, deed):
        """Do a deed that is told as a tuple."""
        if not has_deed_form(deed):
            raise BadDeed(deed)
        name = deed[0]
        if name == "put":
            self._put_numbers(deed[1], deed[2], deed[3])
        elif name == "mark":
            self.mark(deed[1], deed[2], deed[3])
        elif name == "whole":
            self.whole(deed[1])
        elif name == "ask":
            self.ask(deed[1], deed[2], deed[3])
        elif name == "write":
            self.write(deed[1])
        else:
            self.stop(deed[1])

    def _put_numbers(self, word, kind, numbers):
        need_new(self._rule, self._bases, word, kind)
        measures = self._rule.measures()
        if not are_numbers(numbers, len(measures)):
            raise BadMarks(numbers)
        self.put(word, kind, dict(zip(measures, numbers)))

    def _need_thing(self, word):
        if not is_one_of(word, self._bases):
            raise BadThing(word)

    def _need_no_ring(self):
        ring = self.ring()
        if ring is not None:
            raise Ringed(ring)

    def _need_asked(self, packer):
        # True would be found in the place of 1, and a list cannot be looked for.
        if not is_integer(packer) or packer not in self._asked:
            raise BadPacker(packer)
