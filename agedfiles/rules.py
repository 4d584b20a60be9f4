"""Rules that tell whether a read sets the mark "read"."""

from agedfiles.bases import AnyFile
from agedfiles.errors import NoFile, NoRule
from agedfiles.kinds import is_whole
from agedfiles.moments import seconds_of


class Rule:
    """A rule, made by one of the static methods; it is never changed."""

    def __init__(self, word, after):
        self.chosen = word
        self.wait = after

    @staticmethod
    def always():
        """The rule by which each read sets the mark."""
        return Rule("always", None)

    @staticmethod
    def never():
        """The rule by which no read sets the mark."""
        return Rule("never", None)

    @staticmethod
    def seldom(after):
        """The rule by which a read sets a mark that is old or not the latest."""
        if not is_whole(after) or not 1 <= after <= 2000:
            raise NoRule(after)
        return Rule("seldom", after)

    @property
    def word(self):
        """One of "always", "never" and "seldom"."""
        return self.chosen

    @property
    def after(self):
        """The age from which on a read sets the mark; None but for seldom."""
        return self.wait

    def __call__(self, file, at):
        """Tell whether a read of the file at a moment would set the mark."""
        if not isinstance(file, AnyFile):
            raise NoFile(file)
        moment = seconds_of(at)
        if self.chosen != "seldom":
            return self.chosen == "always"
        marks = file.marks()
        read = marks["read"]
        return read <= marks["written"] or read <= marks["changed"] or moment - read >= self.wait

    def __eq__(self, other):
        return isinstance(other, Rule) and self.chosen == other.chosen and self.wait == other.wait
