"""Sessions: ways that are kept by names, a book and a rule, and trials that can be taken back."""

from agedfiles.books import check_book
from agedfiles.checks import check_rule, check_way
from agedfiles.errors import Nested, NoName, TooLong
from agedfiles.safety import is_safe

LETTERS = "abcdefghijklmnopqrstuvwxyz"
LONGEST_NAME = 8
MOST_NAMES = 20


class Trial:
    """A block at whose end the session is as it was at its beginning, if an error leaves it."""

    def __init__(self, session):
        self.tried = session
        self.kept_ways = {}
        self.kept_book = None
        self.kept_rule = None

    def __enter__(self):
        if self.tried.running:
            raise Nested()
        self.kept_ways = dict(self.tried.kept_ways)
        self.kept_book = self.tried.kept_book.twin()
        self.kept_rule = self.tried.kept_rule
        self.tried.running = True

    def __exit__(self, kind, value, trace):
        self.tried.running = False
        if kind is not None:
            self.tried.kept_ways = self.kept_ways
            self.tried.kept_book = self.kept_book
            self.tried.kept_rule = self.kept_rule


class Session:
    """Ways by their names, with a book and a rule for all of them."""

    def __init__(self, book, rule):
        check_book(book)
        check_rule(rule)
        self.kept_ways = {}
        self.kept_book = book.twin()
        self.kept_rule = rule
        self.running = False

    @property
    def book(self):
        """An equal book."""
        return self.kept_book.twin()

    @book.setter
    def book(self, value):
        self.take_book(value)

    @property
    def rule(self):
        """The rule."""
        return self.kept_rule

    @rule.setter
    def rule(self, value):
        self.take_rule(value)

    @property
    def trying(self):
        """Whether a trial is running."""
        return self.running

    def take_book(self, book):
        """Set the book."""
        check_book(book)
        self.kept_book = book.twin()

    def take_rule(self, rule):
        """Set the rule."""
        check_rule(rule)
        self.kept_rule = rule

    def change(self, part, value):
        """Set a part of the book."""
        self.kept_book.change(part, value)

    def keep(self, name, way):
        """Keep a way by a name, in place of the one that was kept by it."""
        if not is_name(name):
            raise NoName(name)
        check_way(way)
        if name not in self and len(self) >= MOST_NAMES:
            raise TooLong(MOST_NAMES)
        self.kept_ways[name] = way

    def remove(self, name):
        """Keep nothing by a name any more."""
        if name not in self:
            raise NoName(name)
        del self.kept_ways[name]

    def names(self):
        """The ascending list of the names."""
        return sorted([str(name) for name in self.kept_ways])

    def safe(self, name):
        """Tell whether the book is safe for the way of a name."""
        return is_safe(self[name], self.kept_rule, self.kept_book)

    def unsafe_names(self):
        """The ascending list of the names of the ways for which the book is not safe."""
        return [name for name in self.names() if not self.safe(name)]

    def trial(self):
        """A block for with, which an error that leaves it takes back."""
        return Trial(self)

    def within(self, visitor):
        """Call the visitor with the session in such a block, and return what it returns."""
        with Trial(self):
            return visitor(self)

    def __getitem__(self, at):
        if at not in self:
            raise NoName(at)
        return self.kept_ways[at]

    def __setitem__(self, at, worth):
        self.keep(at, worth)

    def __iter__(self):
        raise TypeError("a session is not gone through: take names()")

    def __contains__(self, x):
        return isinstance(x, str) and x in self.kept_ways

    def __len__(self):
        return len(self.kept_ways)


def is_name(value):
    """Tell of any object whether it is one to eight small letters."""
    if not isinstance(value, str) or not 1 <= len(value) <= LONGEST_NAME:
        return False
    return all([letter in LETTERS for letter in value])
