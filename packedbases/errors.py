"""The errors of the package, each with the value that it tells of."""


class PackError(Exception):
    """What all errors of the package are."""


class BadArgument(PackError):
    """A value that cannot stand where it was given."""

    def __init__(self, value):
        self.value = value


class BadRule(PackError):
    """The first part of a rule that is not as a rule asks."""

    def __init__(self, part):
        self.part = part


class BadKind(PackError):
    """A value that is no kind."""

    def __init__(self, value):
        self.value = value


class BadMeasure(PackError):
    """A value that is no measure."""

    def __init__(self, value):
        self.value = value


class BadThing(PackError):
    """A value that is no thing."""

    def __init__(self, value):
        self.value = value


class BadWord(PackError):
    """A value that is no word for its place."""

    def __init__(self, value):
        self.value = value


class BadMarks(PackError):
    """A value that does not tell the numbers of all measures."""

    def __init__(self, value):
        self.value = value


class BadBase(PackError):
    """A thing that is not let by as a base."""

    def __init__(self, value):
        self.value = value


class BadPacker(PackError):
    """A value that is no packer who can do this now."""

    def __init__(self, value):
        self.value = value


class BadDeed(PackError):
    """A value that has not the form of a deed."""

    def __init__(self, value):
        self.value = value


class BadNumber(PackError):
    """A value that is no number within its bounds."""

    def __init__(self, value):
        self.value = value


class BadWalk(PackError):
    """A value that is no walk of the form that is asked for."""

    def __init__(self, value):
        self.value = value


class BadPaper(PackError):
    """A value that is no paper of the rule."""

    def __init__(self, value):
        self.value = value


class BadText(PackError):
    """A text that cannot be read, or where it cannot."""

    def __init__(self, at):
        self.at = at


class BadChange(PackError):
    """A value that is no change that can be made."""

    def __init__(self, value):
        self.value = value


class BadWish(PackError):
    """A value that is no list of wishes."""

    def __init__(self, value):
        self.value = value


class BadCommand(PackError):
    """A row that is no command."""

    def __init__(self, line):
        self.line = line


class Ringed(PackError):
    """A ring that is there, or would close."""

    def __init__(self, things):
        self.things = things


class Lost(PackError):
    """A thing that cannot be made again."""

    def __init__(self, word):
        self.word = word


class TooMany(PackError):
    """More than can be gone through."""

    def __init__(self, number):
        self.number = number


class Leaned(PackError):
    """A thing that another one leans on."""

    def __init__(self, word):
        self.word = word


class BadEntry(PackError):
    """A value that is no pack, entry or place."""

    def __init__(self, value):
        self.value = value


class NothingLeft(PackError):
    """No change is left that could be undone."""
