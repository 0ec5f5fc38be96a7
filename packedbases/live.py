"""Contents, changes of least cost, and live stores that keep things with contents whole or as changes."""

from packedbases.errors import BadArgument, BadBase, BadChange, BadWord, Leaned, Ringed
from packedbases.forms import chain_in, forms_let, from_least, leaning_on
from packedbases.rules import are_numbers, is_between, is_integer, is_one_of, need_rule
from packedbases.store import need_marks, need_move, need_new

MOST_NUMBERS = 60
KEEP_COST = 2
PUT_COST = 1


def made(base, change):
    """The contents that a change makes of a base."""
    need_contents(base)
    if not is_change(change, len(base)):
        raise BadChange(change)
    return contents_by(base, change)


def cost_of(change):
    """The cost of a change."""
    if not is_change(change, MOST_NUMBERS):
        raise BadChange(change)
    return cost_of_rows(change)


def change_of(base, target):
    """A change of least cost that makes a target of a base."""
    need_contents(base)
    need_contents(target)
    return least_change(base, target)


def least_cost(base, target):
    """The least cost of a change that makes a target of a base."""
    return cost_of_rows(change_of(base, target))


def tried(live, words, bases):
    """The total of a live store when each word is packed with the base of the same index, all or none."""
    if not isinstance(live, Live):
        raise BadArgument(live)
    if not isinstance(words, list):
        raise BadArgument(words)
    if not isinstance(bases, list) or len(bases) != len(words):
        raise BadArgument(bases)
    with live.trial() as work:
        for word, base in zip(words, bases):
            work.pack(word, base)
    return live.total()


class Live:
    """Things with contents, under a rule, each kept whole or as a change of least cost of its base."""

    def __init__(self, rule):
        need_rule(rule)
        self._rule = rule
        # A dict from words to tuples (kind, numbers, base, contents or rows). It is never changed: each deed makes
        # a new one, so that copies and trials may share it.
        self._things = {}

    def __len__(self):
        return len(self._things)

    def __contains__(self, x):
        return is_one_of(x, self._things)

    def __getitem__(self, at):
        if not is_one_of(at, self._things):
            raise BadWord(at)
        return contents_in(self._things, at)

    def __setitem__(self, at, worth):
        self.rewrite(at, worth)

    def __iter__(self):
        raise TypeError("live stores are not iterated over: take words()")

    def __eq__(self, other):
        return isinstance(other, Live) and self._rule == other._rule and self._facts() == other._facts()

    def words(self):
        """The list of the words of the things, ascending."""
        return sorted(self._things, key=str)

    def forms(self):
        """A dict from the words, ascending, to their bases or None."""
        return {word: self._things[word][2] for word in self.words()}

    def depth(self, word):
        """The number of changes from a thing to a whole one."""
        self._need_word(word)
        return len(chain_in(self.forms(), word)) - 1

    def size(self, word):
        """How many numbers a whole thing has, the cost of the change of another one."""
        self._need_word(word)
        base, body = self._things[word][2:]
        return len(body) if base is None else cost_of_rows(body)

    def total(self):
        """The sizes of all things together."""
        return sum([self.size(word) for word in self._things])

    def put(self, word, kind, marks, contents):
        """Put a new thing, kept whole."""
        need_new(self._rule, self._things, word, kind)
        need_marks(self._rule, marks)
        need_contents(contents)
        numbers = tuple([marks[measure] for measure in self._rule.measures()])
        self._hold({word: (kind, numbers, None, tuple(contents))})

    def mark(self, word, measure, number):
        """Set a number of a measure that moves."""
        self._need_word(word)
        need_move(self._rule, measure, number)
        kind, numbers, base, body = self._things[word]
        at = self._rule.measures().index(measure)
        self._hold({word: (kind, numbers[:at] + (number,) + numbers[at + 1:], base, body)})

    def pack(self, word, base):
        """Keep a thing as a change of a base from now on."""
        self._need_word(word)
        self._need_word(base)
        if word == base or not self._is_let(word, base):
            raise BadBase(base)
        chain = chain_in(self.forms(), base)
        if word in chain:
            raise Ringed(from_least([word] + chain[:chain.index(word)]))
        self._hold({word: self._kept(word, base, self[word])})

    def whole(self, word):
        """Keep a thing whole from now on."""
        self._need_word(word)
        self._hold({word: self._kept(word, None, self[word])})

    def rewrite(self, word, contents):
        """Give a thing other contents; what leans on it keeps its own, and all bases stay."""
        self._need_word(word)
        need_contents(contents)
        new = {word: self._kept(word, self._things[word][2], contents)}
        for leaning in leaning_on(self.forms(), [word]):
            new[leaning] = self._kept_on(leaning, word, contents, self[leaning])
        self._hold(new)

    def drop(self, word):
        """Let a thing on which none leans be there no more."""
        self._need_word(word)
        if leaning_on(self.forms(), [word]):
            raise Leaned(word)
        self._things = {other: self._things[other] for other in self._things if other != word}

    def copy(self):
        """An equal live store, which goes on by itself."""
        other = Live(self._rule)
        other._things = self._things
        return other

    def trial(self):
        """What is used with `with`, for one block: a copy as which this goes on unless an exception leaves it."""
        return Trial(self)

    def _need_word(self, word):
        if not is_one_of(word, self._things):
            raise BadWord(word)

    def _hold(self, new):
        self._things = {**self._things, **new}

    def _is_let(self, word, base):
        measures = self._rule.measures()
        kind, numbers = self._things[word][:2]
        base_kind, base_numbers = self._things[base][:2]
        marks = dict(zip(measures, numbers))
        told = self._rule.lets_by(kind, marks, base_kind, dict(zip(measures, base_numbers)))
        return told and forms_let(self._rule, self.forms(), word, base)

    def _kept(self, word, base, contents):
        """A thing with a base, or none, and with contents, as it is held."""
        if base is None:
            return self._things[word][:2] + (None, tuple(contents))
        return self._kept_on(word, base, self[base], contents)

    def _kept_on(self, word, base, base_contents, contents):
        """A thing with contents as it is held on a base with contents."""
        return self._things[word][:2] + (base, tuple(least_change(base_contents, contents)))

    def _facts(self):
        return {word: self._things[word][:3] + (contents_in(self._things, word),) for word in self._things}


class Trial:
    """A copy of a live store for one block, as which the store goes on unless an exception leaves the block."""

    def __init__(self, live):
        self._live = live
        self._work = live

    def __enter__(self):
        self._work = self._live.copy()
        return self._work

    def __exit__(self, kind, value, trace):
        if kind is None:
            self._live._things = self._work._things


def is_contents(value):
    """Whether a value is a list of integers that a thing can have."""
    return isinstance(value, list) and len(value) <= MOST_NUMBERS and all([is_integer(number) for number in value])


def need_contents(value):
    """Refuse a value that is no contents."""
    if not is_contents(value):
        raise BadArgument(value)


def is_change(value, reach):
    """Whether a value is a change of a base of so many numbers."""
    if not isinstance(value, list) or not all([is_row(row, reach) for row in value]):
        return False
    names = [row[0] for row in value]
    if ("put", "put") in list(zip(names, names[1:])):
        return False
    return sum([many_made(row) for row in value]) <= MOST_NUMBERS


def is_row(value, reach):
    """Whether a value is a row of a change of a base of so many numbers."""
    if not isinstance(value, tuple) or not value or not is_one_of(value[0], ("keep", "put")):
        return False
    if value[0] == "put":
        return len(value) == 2 and isinstance(value[1], tuple) and are_put(value[1])
    if len(value) != 3 or not is_between(value[1], 0, reach):
        return False
    return is_between(value[2], 1, reach - value[1])


def are_put(numbers):
    """Whether a tuple has one integer or more."""
    return len(numbers) >= 1 and are_numbers(numbers, len(numbers))


def many_made(row):
    """How many numbers a row makes."""
    return row[2] if row[0] == "keep" else len(row[1])


def cost_of_rows(rows):
    """The cost of the rows of a change."""
    return sum([KEEP_COST if row[0] == "keep" else PUT_COST + len(row[1]) for row in rows])


def contents_by(base, rows):
    """The list of the numbers that the rows of a change make of a base."""
    contents = []
    for row in rows:
        contents.extend(base[row[1]:row[1] + row[2]] if row[0] == "keep" else row[1])
    return contents


def contents_in(things, word):
    """The contents of a thing, made from the forms of things."""
    changes = []
    base, body = things[word][2:]
    while base is not None:
        changes.append(body)
        base, body = things[base][2:]
    contents = list(body)
    for rows in changes[::-1]:
        contents = contents_by(contents, rows)
    return contents


def least_change(base, target):
    """A change of least cost that makes a target of a base."""
    runs = longest_runs(base, target)
    # For each number of numbers that are made, the best rows, with their cost, behind a keep and behind a put.
    kept = [(0, [])] + [None] * len(target)
    put = [None] * (len(target) + 1)
    for at, number in enumerate(target):
        cost, rows = lesser(kept[at], put[at])
        many, start = runs[at]
        for length in range(1, many + 1):
            longer = (cost + KEEP_COST, rows + [("keep", start, length)])
            kept[at + length] = lesser(kept[at + length], longer)
        put[at + 1] = lesser(with_put(kept[at], number), with_more(put[at], number))
    return lesser(kept[-1], put[-1])[1]


def lesser(one, other):
    """Of two pairs of a cost and rows, or None, the one of less cost."""
    if one is None or (other is not None and other[0] < one[0]):
        return other
    return one


def with_put(held, number):
    """Rows with their cost, and with a new put of one number."""
    if held is None:
        return None
    return (held[0] + PUT_COST + 1, held[1] + [("put", (number,))])


def with_more(held, number):
    """Rows with their cost, with one number more in the put behind the others."""
    if held is None:
        return None
    return (held[0] + 1, held[1][:-1] + [("put", held[1][-1][1] + (number,))])


def longest_runs(base, target):
    """For each index of a target how many numbers from it on are one behind the other in a base, and where."""
    runs = []
    behind = [0] * (len(base) + 1)
    for at in reversed(range(len(target))):
        here = [behind[k + 1] + 1 if base[k] == target[at] else 0 for k in range(len(base))] + [0]
        most = max(here, key=int)
        runs.append((most, here.index(most)))
        behind = here
    return runs[::-1]
