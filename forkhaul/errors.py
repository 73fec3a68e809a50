"""The errors of forkhaul [1.1]."""


class ForkError(ValueError):
    """The base of all errors that are no key errors."""

    def __init__(self, why=""):
        self.why = why


class BadName(ForkError):
    """An argument that is not allowed."""


class BadPath(ForkError):
    """What is no path, or no files."""


class BadRef(ForkError):
    """What is no reference, or references that stand in each other's way."""


class BadChange(ForkError):
    """A change that cannot be made or combined."""


class BadMark(ForkError):
    """A mark that leaves no candidate, or a wrong set of names."""


class BadLetter(ForkError):
    """A letter that is out of turn or of another form."""


class BadCommand(ForkError):
    """A command that is not allowed, or not any more."""


class Crash(ForkError):
    """A disk that carries out no more steps."""


class Cut(ForkError):
    """A line that was cut between two repositories."""


class BadObject(ForkError):
    """Bytes that are no object's, or an object of another kind than the wanted one."""

    def __init__(self, at):
        self.at = at


class BadPack(ForkError):
    """Bytes that are no pack."""

    def __init__(self, at):
        self.at = at


class BadExpression(ForkError):
    """A text that is no expression, or one that has no value."""

    def __init__(self, at):
        self.at = at


class Clash(ForkError):
    """Two different objects with one id."""

    def __init__(self, name):
        self.name = name


class Conflict(ForkError):
    """Paths at which no result can be found."""

    def __init__(self, paths):
        self.paths = paths


class Locked(ForkError):
    """A reference that another open edit has locked."""

    def __init__(self, ref):
        self.ref = ref


class Stale(ForkError):
    """A reference that is not where it was believed to be."""

    def __init__(self, ref):
        self.ref = ref


class NoObject(KeyError):
    """An id, or a file's name, that is not there."""

    def __init__(self, name):
        self.name = name


class NoRef(KeyError):
    """A reference that is not there."""

    def __init__(self, name):
        self.name = name
