"""Books: how cleaners see the marks of files, and when they delete."""

from agedfiles.deeds import MARKS, is_looks
from agedfiles.errors import NoBook, NoFile, NoMark
from agedfiles.files import File
from agedfiles.kinds import is_count, is_time, is_whole
from agedfiles.moments import is_point, seconds_of

PARTS = ("bound", "looks", "how", "day", "grain", "spares", "late", "again", "period")


class Book:
    """How a cleaner works, told by nine parts that can be changed."""

    def __init__(self, *, bound, looks=MARKS, how="above", day=1, grain=1, spares=False, late=0, again=True, period=1):
        told = {"bound": bound, "looks": looks, "how": how, "day": day, "grain": grain,
                "spares": spares, "late": late, "again": again, "period": period}
        for part in PARTS:
            check_part(part, told[part])
        self.told_parts = told

    @staticmethod
    def careful(bound):
        """The book that spares held files, otherwise a plain one."""
        return Book(bound=bound, spares=True)

    @staticmethod
    def hasty(bound):
        """The book that looks at one mark and deletes late without another look."""
        return Book(bound=bound, looks=("written",), late=60, again=False)

    @property
    def bound(self):
        """The seen age above which, or from which on, it deletes."""
        return self.told_parts["bound"]

    @bound.setter
    def bound(self, value):
        self.change("bound", value)

    @property
    def looks(self):
        """The marks that it sees."""
        return self.told_parts["looks"]

    @looks.setter
    def looks(self, value):
        self.change("looks", value)

    @property
    def how(self):
        """The word "above" or "from"."""
        return self.told_parts["how"]

    @how.setter
    def how(self, value):
        self.change("how", value)

    @property
    def day(self):
        """The seconds of one unit of the seen age."""
        return self.told_parts["day"]

    @day.setter
    def day(self, value):
        self.change("day", value)

    @property
    def grain(self):
        """The seconds to multiples of which marks are rounded down."""
        return self.told_parts["grain"]

    @grain.setter
    def grain(self, value):
        self.change("grain", value)

    @property
    def spares(self):
        """Whether it never looks at held files."""
        return self.told_parts["spares"]

    @spares.setter
    def spares(self, value):
        self.change("spares", value)

    @property
    def late(self):
        """The most seconds from a look to the deleting."""
        return self.told_parts["late"]

    @late.setter
    def late(self, value):
        self.change("late", value)

    @property
    def again(self):
        """Whether it looks again at the moment of deleting."""
        return self.told_parts["again"]

    @again.setter
    def again(self, value):
        self.change("again", value)

    @property
    def period(self):
        """The seconds from one look to the next one."""
        return self.told_parts["period"]

    @period.setter
    def period(self, value):
        self.change("period", value)

    def __getitem__(self, at):
        if not is_part(at):
            raise NoBook(at)
        return self.told_parts[at]

    def __setitem__(self, at, worth):
        self.change(at, worth)

    def __iter__(self):
        raise TypeError("a book is not gone through: take parts()")

    def change(self, part, value):
        """Set a part."""
        check_part(part, value)
        self.told_parts[part] = value

    def parts(self):
        """The dict of all parts, in order."""
        return dict(self.told_parts)

    def remade(self, **parts):
        """A new book with other values of some parts."""
        for part in parts:
            if not is_part(part):
                raise NoBook("part")
        told = {**self.told_parts, **parts}
        return Book(**told)

    def twin(self):
        """An equal book of its own."""
        return self.remade()

    def threshold(self):
        """The least seen age, in seconds, at which it deletes."""
        if self.how == "above":
            return (self.bound + 1) * self.day
        return self.bound * self.day

    def due(self, latest):
        """The first moment at which a look deletes a file, by the latest mark of looks."""
        return latest // self.grain * self.grain + self.threshold()

    def __call__(self, file, at):
        """Tell whether the cleaner deletes the file by a look at a moment."""
        if not isinstance(file, File):
            raise NoFile(file)
        moment = seconds_of(at)
        if self.spares and file.held:
            return False
        return moment >= self.due(file.latest(self.looks))

    def __eq__(self, other):
        return isinstance(other, Book) and self.told_parts == other.told_parts

    def __le__(self, other):
        return deletes_no_more(self, other)

    def __lt__(self, other):
        return deletes_no_more(self, other) and not deletes_no_more(other, self)

    def __ge__(self, other):
        return deletes_no_more(other, self)

    def __gt__(self, other):
        return deletes_no_more(other, self) and not deletes_no_more(self, other)


def seen_age(book, marks, at):
    """The age in days, rounded down, that the book sees in marks at a moment."""
    check_book(book)
    if not is_dict_of_marks(marks):
        raise NoMark(marks)
    moment = seconds_of(at)
    latest = max([int(seconds_of(marks[mark])) for mark in book.looks])
    return (moment - latest // book.grain * book.grain) // book.day


def check_book(value):
    """Raise an error unless the value is a book."""
    if not isinstance(value, Book):
        raise NoBook("book")


def check_part(part, value):
    """Raise an error unless the value is one of the part."""
    if not is_part(part) or not is_worth(part, value):
        raise NoBook(part)


def is_part(value):
    """Tell of any object whether it is the name of a part."""
    return isinstance(value, str) and value in PARTS


def is_worth(part, value):
    """Tell of any object whether it is a value of the part."""
    if part == "bound":
        return is_count(value) and value <= 10 ** 12
    if part == "looks":
        return is_looks(value)
    if part == "how":
        return isinstance(value, str) and value in ("above", "from")
    if part == "grain":
        return is_whole(value) and 1 <= value <= 10 ** 6
    if part == "late":
        return is_count(value) and value <= 10 ** 9
    if part in ("spares", "again"):
        return isinstance(value, bool)
    return is_time(value)


def is_dict_of_marks(value):
    """Tell of any object whether it is a dict from the three marks to moments."""
    if not isinstance(value, dict) or len(value) != len(MARKS):
        return False
    return all([mark in value and is_point(value[mark]) for mark in MARKS])


def deletes_no_more(one, other):
    """Tell whether the other book deletes, by a look, all that the first one deletes."""
    check_book(one)
    check_book(other)
    if other.spares and not one.spares:
        return False
    if other.threshold() == 0:
        return True
    if not all([mark in one.looks for mark in other.looks]):
        return False
    # The first book sees its latest mark rounded down by some a, the other one
    # sees that mark (no mark of its looks is later) rounded down by some b: any
    # a and b below the grains that differ by a multiple of their common part.
    # Where the first one begins to delete, the other one sees threshold - a + b:
    # the least, if a is grain - 1 and b the common part less 1.
    return one.threshold() - one.grain + common_part(one.grain, other.grain) >= other.threshold()


def common_part(one, other):
    """The greatest number that divides both."""
    while other:
        one, other = other, one % other
    return one
