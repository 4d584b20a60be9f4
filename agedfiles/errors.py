"""The errors of the package, each one straight under AgeError."""


class AgeError(ValueError):
    """The base of all errors of the package."""


class NoMoment(AgeError):
    """A value that is no moment, or none that can stand there."""

    def __init__(self, value):
        self.value = value


class NoRule(AgeError):
    """A value that is no rule, or no age after which a rule marks a read."""

    def __init__(self, value):
        self.value = value


class NoFile(AgeError):
    """A value that is no file, or no truth that tells whether one is held."""

    def __init__(self, value):
        self.value = value


class NoDeed(AgeError):
    """A value that is no deed, or none that can be done there."""

    def __init__(self, value):
        self.value = value


class NoMark(AgeError):
    """A value that is no mark, or no choice of marks."""

    def __init__(self, value):
        self.value = value


class NoGrain(AgeError):
    """A value that is no grain to which moments are rounded."""

    def __init__(self, value):
        self.value = value


class NoRow(AgeError):
    """A value that is no row of a way, or no number of its steps."""

    def __init__(self, value):
        self.value = value


class NoName(AgeError):
    """A value that is no name, or one by which nothing is kept."""

    def __init__(self, value):
        self.value = value


class NoText(AgeError):
    """A value that is not the text of what is to be read."""

    def __init__(self, value):
        self.value = value


class NoCommand(AgeError):
    """A row that the console does not know."""

    def __init__(self, value):
        self.value = value


class NoStretch(AgeError):
    """A pair that is none, by its index; None for anything else."""

    def __init__(self, index):
        self.index = index


class NoChange(AgeError):
    """A change that is none, by its index; None for anything else."""

    def __init__(self, index):
        self.index = index


class NoWay(AgeError):
    """A part of a way that is none: its kind, and its index or what stood there."""

    def __init__(self, kind, index):
        self.kind = kind
        self.index = index


class NoBook(AgeError):
    """A part of a book that is none, by its name."""

    def __init__(self, part):
        self.part = part


class NoEnd(AgeError):
    """An arrow without a greatest time where all times are gone through."""


class Nested(AgeError):
    """A trial that is begun within a trial."""


class TooLong(AgeError):
    """More than can be told or kept: the limit is the most."""

    def __init__(self, limit):
        self.limit = limit
