import itertools
import random
import time
import unittest

from agedfiles.books import Book
from agedfiles.compare import parting
from agedfiles.errors import NoBook
from agedfiles.kinds import is_moment
from agedfiles.moments import Moment
from tests.helpers import caught, odd_objects
from tests.model import CHOICES, MARKS
from tests.test_book_order import gone, includes

FAR = 10 ** 9


class PartingTest(unittest.TestCase):
    def part(self, one, other):
        """What parting tells, held against the comparison and against the document; None or True."""
        kept = one.twin(), other.twin()
        found = parting(one, other)
        told = (one.parts(), other.parts(), found)
        self.assertEqual(parting(one, other), found)
        self.assertEqual((one, other), kept)
        self.assertIs(found is None, one <= other, told)
        if found is None:
            return None
        self.assertIs(found.__class__, tuple)
        marks, held, at = found
        self.assertIs(marks.__class__, dict)
        self.assertEqual(list(marks), list(MARKS))
        self.assertIn(held, (True, False))
        self.assertIs(held.__class__, bool)
        self.assertEqual([is_moment(moment) for moment in [*marks.values(), at]], [True] * 4, told)
        self.assertEqual([mark for mark in MARKS if marks[mark] > at], [], told)
        place = (*marks.values(), at, held)
        self.assertEqual((gone(one, *place), gone(other, *place)), (True, False), told)
        return True

    def test_example_of_the_document(self):
        found = [Book(bound=9) <= Book(bound=8), Book(bound=9, looks=("read",)) <= Book(bound=9),
                 parting(Book(bound=9), Book(bound=8))]
        self.assertEqual(found, [True, False, None])
        self.part(Book(bound=9, looks=("read",)), Book(bound=9))

    def test_books_that_differ_in_one_part(self):
        found = []
        for plain in ({"bound": 3, "day": 2, "grain": 2}, {"bound": 0, "how": "from"}, {"bound": 5, "spares": True}):
            for part, values in (("bound", (0, 1, 2, 3, 4, 9)), ("looks", CHOICES), ("how", ("above", "from")),
                                 ("day", (1, 2, 3, 4)), ("grain", (1, 2, 3, 4, 5, 6)), ("spares", (False, True)),
                                 ("late", (0, 7)), ("again", (False, True)), ("period", (1, 7))):
                for one, other in itertools.product(values, repeat=2):
                    made = Book(**{**plain, part: one}), Book(**{**plain, part: other})
                    found.append(self.part(*made))
                    self.assertIs(found[-1] is None, includes(*made), (part, one, other))
        self.assertGreater(min(found.count(None), found.count(True)), 100)

    def test_books_that_differ_in_several_parts(self):
        source = random.Random(41)
        found = []
        for trial in range(400):
            one, other = [Book(bound=source.choice([0, 0, 1, 2, 3, 5, 8]), looks=source.choice(CHOICES + [MARKS] * 4),
                               how=source.choice(["above", "from"]), day=source.choice([1, 1, 2, 3]),
                               grain=source.choice([1, 2, 3, 4, 6]), spares=source.random() < 0.3,
                               late=source.choice([0, 5]), again=source.random() < 0.5, period=source.choice([1, 9]))
                          for book in range(2)]
            found.append((self.part(one, other), self.part(other, one)))
        self.assertEqual(len(set(found)), 4)

    def test_all_pairs_of_grains_and_bounds(self):
        books = [Book(bound=bound, how="from", grain=grain) for grain in (1, 2, 3, 4, 6, 9, 10) for bound in (0, 1, 2, 3, 5, 8, 9)]
        for one, other in itertools.product(books, repeat=2):
            self.part(one, other)

    def test_great_parts(self):
        began = time.time()
        source = random.Random(42)
        grains = [1, 2, 30, 1000, 720720, 10 ** 6 - 1, 10 ** 6 - 2, 10 ** 6 - 17, 500000, 10 ** 6]
        found = []
        for trial in range(3000):
            bound = source.choice([0, 1, 10 ** 6, 10 ** 12])
            day = source.choice([1, 7, FAR])
            one = Book(bound=bound, day=day, grain=source.choice(grains), looks=source.choice(CHOICES), how="from",
                       spares=source.random() < 0.2)
            less = max(0, one.threshold() - source.randint(0, 10 ** 6)) // day
            other = Book(bound=min(less, 10 ** 12), day=day, grain=source.choice(grains), how="from",
                         looks=source.choice([one.looks] * 4 + CHOICES), spares=source.random() < 0.2)
            found.append(self.part(one, other))
        self.assertGreater(min(found.count(None), found.count(True)), 100)
        self.assertLess(time.time() - began, 20)

    def test_bounds_just_apart(self):
        # The less the grains have in common, the less the other one may see.
        small = Book(bound=10 ** 12, how="from", grain=10 ** 6)
        for grain, needed in ((10 ** 6 - 1, 999999), (500000, 500000), (10 ** 6 - 2, 999998), (10 ** 6, 0), (1, 999999)):
            for less in (needed - 1, needed, needed + 1):
                if less >= 0:
                    other = Book(bound=10 ** 12 - less, how="from", grain=grain)
                    self.assertIs(self.part(small, other) is None, less >= needed, (grain, less))

    def test_held_files(self):
        found = parting(Book(bound=3), Book.careful(0))
        self.assertIs(found[1], True)
        self.assertIsNone(parting(Book.careful(3), Book.careful(3)))
        self.assertIsNone(parting(Book.careful(3), Book(bound=3)))
        # Even the book that deletes everything else spares those that are held.
        self.part(Book(bound=3), Book(bound=0, how="from", spares=True))

    def test_marks_that_one_book_does_not_see(self):
        for one, other in itertools.product(CHOICES, repeat=2):
            for grain in (1, 7, 1000):
                for bound in (0, 3, 50):
                    found = self.part(Book(bound=50, looks=one, grain=3), Book(bound=bound, looks=other, grain=grain))
                    self.assertIs(found is None, one_by_one(one, other, bound, grain))

    def test_other_parts_do_not_matter(self):
        for late, again, period in itertools.product((0, 60), (False, True), (1, 60)):
            made = Book(bound=9, late=late, again=again, period=period)
            self.assertIsNone(parting(Book(bound=9), made))
            self.assertIsNone(parting(made, Book(bound=9)))

    def test_new_dicts(self):
        one, other = Book(bound=9, looks=("read",)), Book(bound=9)
        parting(one=one, other=other)[0].clear()
        self.assertEqual(len(parting(one, other)[0]), 3)

    def test_no_book(self):
        book = Book(bound=3)
        for value in odd_objects() + [5, Moment(5), book.parts()]:
            self.assertEqual(caught(NoBook, parting, book, value).part, "book")
            self.assertEqual(caught(NoBook, parting, value, book).part, "book")
            self.assertEqual(caught(NoBook, parting, value, value).part, "book")


def one_by_one(one, other, bound, grain):
    """Whether no marks part the books of the test above, by all phases of both grains."""
    if not set(other) <= set(one):
        return False
    return all(gone(Book(bound=bound, grain=grain), mark, mark, mark, max(mark, mark - mark % 3 + 51), False)
               for mark in range(3 * grain))


if __name__ == "__main__":
    unittest.main()
