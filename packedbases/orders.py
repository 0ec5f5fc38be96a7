"""All that one to three packers can make of given things, in all orders of their deeds."""

from packedbases.errors import BadArgument, BadNumber, TooMany
from packedbases.forms import chain_in, forms_let, rings_among
from packedbases.given import Given
from packedbases.rules import is_integer, need_number

MOST_ORDER_PACKERS = 3
MOST_STATES = 20000


def replayed(given, packers, deeds):
    """The forms behind deeds from the start on, or None if some deed is none there."""
    orders = Orders(given, packers)
    if not isinstance(deeds, list):
        raise BadArgument(deeds)
    state = orders._start
    for deed in deeds:
        behind = orders._behind(state)
        if not is_plain(deed) or deed not in behind:
            return None
        state = behind[deed]
    return orders._forms(state[0])


class Orders:
    """All states of given things and their packers that deeds lead to; they never change."""

    def __init__(self, given, packers):
        if not isinstance(given, Given):
            raise BadArgument(given)
        need_number(packers, 1, MOST_ORDER_PACKERS)
        self._given = given
        self._words = given.words()
        # A state is a tuple of the bases of all words, and a tuple of the pairs that the packers have asked.
        self._start = ((None,) * len(self._words), (None,) * packers)
        # For the bases of each state the length of the longest chain, None for a ring, and the pairs that are let by.
        self._known = {}
        # For each state, those of fewer deeds first, the state ahead of it and the deed that leads here.
        self._ahead = {self._start: None}
        self._go_through()

    @property
    def amount(self):
        """How many states deeds lead to, with the start itself."""
        return len(self._ahead)

    def ring_deeds(self):
        """A list of the fewest deeds that close a ring, or None."""
        return self._first_deeds([state for state in self._ahead if self._length(state) is None])

    def chain_deeds(self, length):
        """A list of the fewest deeds that come to a chain of so many changes or more, without a ring, or None."""
        if not is_integer(length) or length < 0:
            raise BadNumber(length)
        ringless = [state for state in self._ahead if self._length(state) is not None]
        return self._first_deeds([state for state in ringless if self._length(state) >= length])

    def counts(self):
        """A dict from the lengths of longest chains, None for rings, to how many states have them."""
        many = {}
        for state in self._ahead:
            length = self._length(state)
            many[length] = many.get(length, 0) + 1
        return {length: many[length] for length in sorted(many, key=str)}

    def lost_forms(self):
        """The forms of all states with a ring, each once, in the order of their texts."""
        ringed = [self._forms(bases) for bases in self._known if self._known[bases][0] is None]
        for forms in sorted(ringed, key=str):
            yield forms

    def _forms(self, bases):
        return dict(zip(self._words, bases))

    def _length(self, state):
        return self._known[state[0]][0]

    def _behind(self, state):
        """A dict from the deeds at a state to the states behind them."""
        length, pairs = self._known[state[0]]
        return {} if length is None else states_behind(self._words, pairs, state)

    def _first_deeds(self, states):
        """The deeds that lead to the first one of some states, or None."""
        if not states:
            return None
        deeds = []
        step = self._ahead[states[0]]
        while step is not None:
            deeds.append(step[1])
            step = self._ahead[step[0]]
        return deeds[::-1]

    def _go_through(self):
        layer = [self._start]
        while layer:
            found = []
            for state in layer:
                self._learn(state[0])
                behind = self._behind(state)
                for deed in behind:
                    if behind[deed] not in self._ahead:
                        self._ahead[behind[deed]] = (state, deed)
                        found.append(behind[deed])
                if len(self._ahead) > MOST_STATES:
                    raise TooMany(len(self._ahead))
            layer = found

    def _learn(self, bases):
        if bases not in self._known:
            forms = self._forms(bases)
            length = longest_in(forms)
            self._known[bases] = (length, [] if length is None else pairs_let(self._given, forms))


def is_plain(value):
    """Whether a value is a tuple of texts and integers alone."""
    # True would be found in the place of 1, and a list cannot be looked for.
    return isinstance(value, tuple) and all([isinstance(part, str) or is_integer(part) for part in value])


def longest_in(forms):
    """The greatest length of a chain of forms, None if there is a ring."""
    if rings_among(forms):
        return None
    # The length is the number of changes, one less than that of the words.
    return max([len(chain_in(forms, word)) for word in forms]) - 1


def pairs_let(given, forms):
    """The list of the pairs of a word and a base that can be asked, by forms without a ring."""
    return [(word, base) for word in forms for base in given.bases(word) if forms_let(given.rule, forms, word, base)]


def states_behind(words, pairs, state):
    """A dict from the deeds at a state without a ring to the states behind them, by the pairs that can be asked."""
    bases, asks = state
    behind = {}
    for at, asked in enumerate(asks):
        if asked is None:
            for word, base in pairs:
                behind[("ask", at + 1, word, base)] = (bases, with_part(asks, at, (word, base)))
        else:
            word, base = asked
            rest = with_part(asks, at, None)
            behind[("write", at + 1)] = (with_part(bases, words.index(word), base), rest)
            behind[("stop", at + 1)] = (bases, rest)
    for at, word in enumerate(words):
        if bases[at] is not None:
            behind[("whole", word)] = (with_part(bases, at, None), asks)
    return behind


def with_part(parts, at, part):
    """A tuple with another part at an index."""
    return parts[:at] + (part,) + parts[at + 1:]
