"""Files that bear marks of time, and blocks in which they are held."""

from agedfiles.bases import AnyFile
from agedfiles.deeds import MARKS, backs, is_deed, is_looks, makes
from agedfiles.errors import NoDeed, NoFile, NoMark, NoMoment, NoRule
from agedfiles.moments import Moment, seconds_of
from agedfiles.rules import Rule


class Hold:
    """A block in which a file is held."""

    def __init__(self, file):
        self.file = file

    def __enter__(self):
        self.file.holding = True

    def __exit__(self, kind, value, trace):
        self.file.holding = False


class File(AnyFile):
    """A file that a deed has made and that later deeds change."""

    def __init__(self, rule, deed, at):
        if not isinstance(rule, Rule):
            raise NoRule(rule)
        if not makes(deed):
            raise NoDeed(deed)
        moment = seconds_of(at)
        self.ruling = rule
        self.noted = {mark: moment - back for mark, back in backs(deed).items()}
        self.done_at = moment
        self.holding = False

    @property
    def last(self):
        """The moment of the last deed, an integer."""
        return self.done_at

    @property
    def held(self):
        """Whether the file is held."""
        return self.holding

    @held.setter
    def held(self, value):
        if not isinstance(value, bool):
            raise NoFile(value)
        self.holding = value

    def __getitem__(self, at):
        if not isinstance(at, str) or at not in MARKS:
            raise NoMark(at)
        return Moment(self.noted[at])

    def __iter__(self):
        raise TypeError("a file is not gone through: take marks()")

    def marks(self):
        """The dict from the marks to integers, in order."""
        return dict(self.noted)

    def latest(self, looks):
        """The latest of some marks, an integer."""
        if not is_looks(looks):
            raise NoMark(looks)
        return max([int(self.noted[mark]) for mark in looks])

    def do(self, deed, at):
        """Do a deed later, and return the list of the marks that it set, in order."""
        if not is_deed(deed):
            raise NoDeed(deed)
        moment = seconds_of(at)
        if moment <= self.done_at:
            raise NoMoment(at)
        shifts = self.shifts(deed, moment)
        for mark, back in shifts.items():
            self.noted[mark] = moment - back
        self.done_at = moment
        if makes(deed):
            self.holding = False
        return list(shifts)

    def shifts(self, deed, moment):
        """The dict from the marks that a deed would set to how far they are set back."""
        if deed[0] != "read":
            return backs(deed)
        if self.ruling(self, moment):
            return {"read": 0}
        return {}

    def hold(self):
        """A block for with, in which the file is held."""
        return Hold(self)

    def within(self, visitor):
        """Call the visitor with the file in such a block, and return what it returns."""
        with Hold(self):
            return visitor(self)

    def double(self):
        """An equal file of its own."""
        other = File(self.ruling, ("make",), self.done_at)
        other.noted = dict(self.noted)
        other.holding = self.holding
        return other

    def __eq__(self, other):
        return (isinstance(other, File) and self.ruling == other.ruling and self.noted == other.noted
                and self.done_at == other.done_at and self.holding == other.holding)
