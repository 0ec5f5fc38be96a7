"""Sessions in which a rule is changed, and attempts, behind which a session is as it was ahead of them."""

from packedbases.errors import BadArgument, BadChange, NothingLeft
from packedbases.rules import MOST_WAYS, is_way, need_rule, with_ways

# For the first text of each change, how many parts it has.
CHANGE_PARTS = {"add": 2, "strike": 2, "limit": 4, "undo": 1}


class Session:
    """A rule that can be changed, and changed back."""

    def __init__(self, rule):
        need_rule(rule)
        # The rules behind all changes that can be undone, the first one ahead of them. It is never changed: each
        # change makes a new one, so that attempts may hold it.
        self._rules = (rule,)

    def __len__(self):
        return len(self._rules[1:])

    def result(self):
        """The rule as it is now."""
        return self._rules[-1]

    def add(self, way):
        """Add a way that the rule has not."""
        rule = self.result()
        if not is_way(way, rule.kinds(), len(rule.measures())) or way in rule or len(rule) == MOST_WAYS:
            raise BadChange(way)
        self._hold(with_ways(rule, rule.ways() + [way]))

    def strike(self, way):
        """Strike a way that the rule has, and that is not the only one."""
        rule = self.result()
        if way not in rule or len(rule) == 1:
            raise BadChange(way)
        self._hold(with_ways(rule, [other for other in rule.ways() if other != way]))

    def limit(self, *, deep=None, tall=None, free=False):
        """Set just these limits."""
        self._hold(self.result().limited(deep=deep, tall=tall, free=free))

    def undo(self):
        """Take the last change back that was not undone."""
        if len(self._rules) == 1:
            raise NothingLeft()
        self._rules = self._rules[:-1]

    def _hold(self, rule):
        self._rules = self._rules + (rule,)


class Attempt:
    """What is used with `with`, for one block: behind it the session is as it was, unless it holds fast."""

    def __init__(self, session):
        need_session(session)
        self._session = session
        # The rules to which the session goes back behind the block, None where it goes back to none.
        self._ahead = None

    def __enter__(self):
        # What was told ahead of the block does nothing.
        self._ahead = self._session._rules
        return self

    def __exit__(self, kind, value, trace):
        if self._ahead is not None:
            self._session._rules = self._ahead

    def hold_fast(self):
        """Let what the block does to the session stay."""
        self._ahead = None


def attempted(session, changes, *, fast=False):
    """The list of the rules behind each of some changes, which stay only if they are held fast."""
    need_session(session)
    rules = []
    with Attempt(session) as attempt:
        for change in changes:
            do_change(session, change)
            rules.append(session.result())
        if fast is True:
            attempt.hold_fast()
    return rules


def need_session(session):
    """Refuse a value that is no session."""
    if not isinstance(session, Session):
        raise BadArgument(session)


def has_change_form(value):
    """Whether a value is a tuple with the first text of a change and as many parts."""
    if not isinstance(value, tuple) or not value or not isinstance(value[0], str):
        return False
    return value[0] in CHANGE_PARTS and len(value) == CHANGE_PARTS[value[0]]


def do_change(session, change):
    """Do a change that is told as a tuple."""
    if not has_change_form(change):
        raise BadChange(change)
    name = change[0]
    if name == "add":
        session.add(change[1])
    elif name == "strike":
        session.strike(change[1])
    elif name == "limit":
        session.limit(deep=change[1], tall=change[2], free=change[3])
    else:
        session.undo()
