import itertools
import random
import unittest

from agedfiles.books import Book
from agedfiles.errors import NoBook
from agedfiles.moments import Moment
from tests.helpers import caught, odd_objects
from tests.model import CHOICES, MARKS


def gone(book, read, written, changed, at, held):
    """Whether a look deletes a file of these marks, as point 12 tells it."""
    marks = {"read": read, "written": written, "changed": changed}
    if book.spares and held:
        return False
    days = (at - max(marks[mark] - marks[mark] % book.grain for mark in book.looks)) // book.day
    return days > book.bound if book.how == "above" else days >= book.bound


# Marks not later than the moment: unlike ones, held ones, and equal ones of many ages at all phases of two grains.
PLACES = [(read, written, changed, at, False) for at in range(-2, 12)
          for read, written, changed in itertools.product((-60, at - 9, at - 4, at - 1, at), repeat=3)]
PLACES += [(-60, -60, -60, at, True) for at in range(12)]
PLACES += [(at - age, at - age, at - age, at, False) for at in range(30) for age in range(50)]


def all_gone(book, known={}):
    """One bit for each place, set if a look deletes the file."""
    key = str(book.parts())
    if key not in known:
        known[key] = int("".join("01"[gone(book, *place)] for place in PLACES), 2)
    return known[key]


def includes(one, other):
    """Whether the other one deletes, of many files, all that the first one deletes."""
    return all_gone(one) & ~all_gone(other) == 0


class OrderTest(unittest.TestCase):
    def compare(self, one, other):
        forth, back = includes(one, other), includes(other, one)
        found = [one <= other, one >= other, one < other, one > other]
        self.assertEqual(found, [forth, back, forth and not back, back and not forth], (one.parts(), other.parts()))
        self.assertEqual([value.__class__ for value in found], [bool] * 4)
        return forth, back

    def test_example_of_the_document(self):
        self.assertEqual([Book(bound=9) <= Book(bound=8), Book(bound=9, looks=("read",)) <= Book(bound=9)], [True, False])

    def test_books_that_differ_in_one_part(self):
        plain = {"bound": 3, "day": 2, "grain": 2}
        for part, values in (("bound", (0, 1, 2, 3, 4, 9)), ("looks", CHOICES), ("how", ("above", "from")),
                             ("day", (1, 2, 3, 4)), ("grain", (1, 2, 3, 4, 5, 6)), ("spares", (False, True)),
                             ("late", (0, 7)), ("again", (False, True)), ("period", (1, 7))):
            for one, other in itertools.combinations_with_replacement(values, 2):
                with self.subTest(part=part, one=one, other=other):
                    self.compare(Book(**{**plain, part: one}), Book(**{**plain, part: other}))

    def test_books_that_differ_in_several_parts(self):
        source = random.Random(20)
        found = set()
        for trial in range(250):
            one, other = [Book(bound=source.choice([0, 0, 1, 2, 3, 5, 8]), looks=source.choice(CHOICES + [MARKS] * 4),
                               how=source.choice(["above", "from"]), day=source.choice([1, 1, 2, 3]),
                               grain=source.choice([1, 2, 3, 4, 6]), spares=source.random() < 0.3,
                               late=source.choice([0, 5]), again=source.random() < 0.5) for book in range(2)]
            found.add(self.compare(one, other))
        self.assertEqual(len(found), 4)

    def test_all_pairs_of_grains_and_bounds(self):
        for one, other in itertools.product(itertools.product((1, 2, 3, 4, 6), (0, 1, 3, 5)), repeat=2):
            self.compare(Book(bound=one[1], how="from", grain=one[0]), Book(bound=other[1], how="from", grain=other[0]))

    def test_books_that_delete_everything(self):
        everything = Book(bound=0, how="from", looks=MARKS, grain=4)
        for looks in CHOICES:
            self.assertIs(Book(bound=9, looks=looks) <= everything, True)
            self.assertIs(Book(bound=0, looks=looks, how="from") <= everything, True)
            self.assertIs(Book(bound=0, looks=looks, how="from") >= everything, True)
        self.assertIs(Book(bound=9) <= everything.remade(spares=True), False)
        self.assertIs(Book(bound=9, spares=True) <= everything.remade(spares=True), True)

    def test_great_parts(self):
        one = Book(bound=10 ** 12, day=10 ** 9, grain=10 ** 6)
        self.assertIs(one <= Book(bound=10 ** 12 - 1, day=10 ** 9, grain=10 ** 6 - 1), True)
        self.assertIs(one <= one.remade(grain=10 ** 6 - 1), False)
        small = Book(bound=10 ** 12, how="from", grain=10 ** 6)
        # The less the grains have in common, the less the other one may see.
        for grain, needed in ((10 ** 6 - 1, 999999), (500000, 500000), (10 ** 6 - 2, 999998), (10 ** 6, 0), (1, 999999)):
            for less in (needed - 1, needed, needed + 1):
                if less >= 0:
                    other = Book(bound=10 ** 12 - less, how="from", grain=grain)
                    self.assertIs(small <= other, less >= needed, (grain, less))
        self.assertIs(Book(bound=10 ** 12, how="from", grain=500000) <= small, True)

    def test_the_books_stay_as_they_are(self):
        one, other = Book(bound=3, grain=4), Book(bound=5, grain=6)
        self.assertIs(one <= other, False)
        self.assertEqual((one, other), (Book(bound=3, grain=4), Book(bound=5, grain=6)))

    def test_no_book(self):
        book = Book(bound=3)
        for value in odd_objects() + [5, Moment(5), book.parts()]:
            for call in (lambda: book <= value, lambda: book < value, lambda: book >= value, lambda: book > value):
                self.assertEqual(caught(NoBook, call).part, "book")


if __name__ == "__main__":
    unittest.main()
