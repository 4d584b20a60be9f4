import unittest

from agedfiles.books import Book
from agedfiles.errors import NoBook, NoEnd, NoRow, NoRule, NoWay
from agedfiles.faults import faults, is_fault
from agedfiles.moments import Moment
from agedfiles.rules import Rule
from agedfiles.ways import Way
from tests.helpers import Agreeable, Odd, caught, odd_objects
from tests.model import MARKS, faults_of, faults_of_row, rows_of
from tests.some_ways import MAKE, MIXED, READ, WAY, WRITE, some_uses

ALWAYS, NEVER = Rule.always(), Rule.never()
FAR = 10 ** 30
ENDLESS = Way([MAKE, READ], [(0, 1, 2, None), (1, 1, 1, 5)])
# A file in use from 0 to 8, with each word of an arrow, and another one from 10 to 14.
WORDS = Way([MAKE, READ, WRITE], [(0, 1, 4, 4), (1, 2, 4, 4, "held"), (2, 0, 2, 2, "anew")])
ROW = ((0, 0), (1, 4), (2, 8), (0, 10), (1, 14))


class IsFaultTest(unittest.TestCase):
    def check_row(self, way, rule, book, row):
        """All looks and moments of deleting of a row, some wrong ones too."""
        found = set(faults_of_row(way, rule, book, row))
        for at in range(row[0][1] - 2, row[-1][1] + 3):
            for then in range(at - 2, at + book.late + 3):
                value = (row, at, then)
                self.assertIs(is_fault(way, rule, book, value), value in found, (book.parts(), value))
        return len(found)

    def test_each_word_late_and_again(self):
        many = 0
        for spares in (False, True):
            for late in (0, 1, 3, 8):
                for again in (False, True):
                    for bound in range(6):
                        for looks in (MARKS, ("written",)):
                            book = Book(bound=bound, looks=looks, spares=spares, late=late, again=again)
                            for rule in (ALWAYS, NEVER, Rule.seldom(3)):
                                many += self.check_row(WORDS, rule, book, ROW)
        self.assertGreater(many, 1000)

    def test_rows_of_some_ways(self):
        many = 0
        for way, rule, book in some_uses(120, seed=3):
            for row in rows_of(way, 4, start=-1)[:8]:
                many += self.check_row(way, rule, book, row)
        self.assertGreater(many, 500)

    def test_deleted_between_two_files(self):
        row = ((0, 0), (1, 4), (2, 8), (0, 10), (1, 14))
        book = Book(bound=0, how="from", late=2, again=False, spares=True)
        # The look at 8 or 9 deletes the first file; the second one is gone at 10.
        self.assertEqual([is_fault(WORDS, ALWAYS, book, (row, 8, then)) for then in (8, 9, 10, 11)],
                         [False, False, True, False])
        self.assertEqual([is_fault(WORDS, ALWAYS, book, (row, 9, then)) for then in (9, 10, 11, 12)],
                         [False, True, True, False])

    def test_looked_at_again(self):
        row = ((0, 0), (1, 7), (1, 14))
        found = {}
        for again in (False, True):
            book = Book(bound=4, late=3, again=again)
            found[again] = [then for then in range(4, 12) if is_fault(WAY, ALWAYS, book, (row, 5, then))]
        self.assertEqual(found, {False: [5, 6, 7, 8], True: [5, 6]})

    def test_out_of_use_behind_the_last_step(self):
        row = ((0, 0), (1, 3))
        book = Book(bound=0, how="from", late=5, again=False)
        self.assertEqual([then for then in range(10) if is_fault(WAY, ALWAYS, book, (row, 1, then))], [1, 2])
        self.assertIs(is_fault(WAY, ALWAYS, book, (row, 3, 3)), False)

    def test_great_moments(self):
        way = Way([MAKE, READ], [(0, 1, 1, None)])
        row = ((0, -10 ** 24), (1, 10 ** 24))
        book = Book(bound=10 ** 12, day=10 ** 9, late=10 ** 9)
        least = -10 ** 24 + (10 ** 12 + 1) * 10 ** 9
        self.assertEqual([is_fault(way, ALWAYS, book, (row, at, at + 5)) for at in (least - 1, least, 10 ** 24 - 6, 10 ** 24 - 5)],
                         [False, True, True, False])
        self.assertEqual([is_fault(way, ALWAYS, book, (row, least, least + late)) for late in (-1, 0, 10 ** 9, 10 ** 9 + 1)],
                         [False, True, True, False])

    def test_other_objects(self):
        row = ((0, 0), (1, 7))
        book = Book(bound=0, late=5)
        self.assertIs(is_fault(WAY, ALWAYS, book, (row, 3, 5)), True)
        for value in odd_objects() + [row, (row,), (row, 3), (row, 3, 5, 5), [row, 3, 5], (list(row), 3, 5), (row, Moment(3), 5),
                                      (row, 3, Moment(5)), (row, None, 5), (row, 3, None), (row, True, 3), (row, 3, Odd()),
                                      (row, Odd(), 5), (row, Agreeable(), 5), (row, 3, Agreeable()), (Odd(), 3, 5),
                                      (Agreeable(), 3, 5), (((1, 0), (1, 7)), 3, 5), (((0, 0), (1, 8)), 3, 5), ((), 3, 5),
                                      (row, 5, 3), (row, -1, 3), (row, 3, FAR + 1), (row, -FAR - 1, 3), (row, 3, 9)]:
            with self.subTest(value=repr(value)):
                self.assertIs(is_fault(WAY, ALWAYS, book, value), False)
        self.assertIs(is_fault(WAY, ALWAYS, Book(bound=0, how="from"), (row, False, False)), False)
        self.assertIs(is_fault(WAY, ALWAYS, Book(bound=0, how="from"), (row, 0, 0)), True)

    def test_errors_in_their_order(self):
        for value in odd_objects() + [[MAKE], ALWAYS]:
            error = caught(NoWay, is_fault, value, None, None, None)
            self.assertEqual(error.kind, "way")
            self.assertIs(error.index, value)
            self.assertIs(caught(NoRule, is_fault, WAY, value if value is not ALWAYS else 5, None, None).__class__, NoRule)
            self.assertEqual(caught(NoBook, is_fault, WAY, ALWAYS, value, None).part, "book")
        self.assertIs(caught(NoRule, is_fault, WAY, WAY, None, None).value, WAY)

    def test_names_of_arguments(self):
        self.assertIs(is_fault(way=WAY, rule=ALWAYS, book=Book(bound=1), value=None), False)


class FaultsTest(unittest.TestCase):
    def test_in_their_order(self):
        way = Way([MAKE, READ], [(0, 1, 2, 3), (1, 1, 3, 3)])
        found = list(faults(way, ALWAYS, Book(bound=1, late=1), 3))
        self.assertEqual(found, [
            (((0, 0), (1, 3)), 2, 2), (((0, 0), (1, 2), (1, 5)), 4, 4),
            (((0, 0), (1, 3), (1, 6)), 2, 2), (((0, 0), (1, 3), (1, 6)), 5, 5)])
        found = list(faults(way, NEVER, Book(bound=0, late=1, grain=2, again=False), 2))
        self.assertEqual(found, [
            (((0, 0), (1, 2)), 1, 1), (((0, 0), (1, 3)), 1, 1), (((0, 0), (1, 3)), 1, 2), (((0, 0), (1, 3)), 2, 2),
            (((0, 1), (1, 3)), 1, 1), (((0, 1), (1, 3)), 1, 2), (((0, 1), (1, 3)), 2, 2),
            (((0, 1), (1, 4)), 1, 1), (((0, 1), (1, 4)), 1, 2), (((0, 1), (1, 4)), 2, 2), (((0, 1), (1, 4)), 2, 3),
            (((0, 1), (1, 4)), 3, 3)])

    def test_against_the_model(self):
        for way, rule, book in some_uses(120, seed=4, longest=3):
            for many in (2, 4):
                self.assertEqual(list(faults(way, rule, book, many)), faults_of(way, rule, book, many))
        for late, again, spares in ((0, True, False), (4, True, True), (4, False, True), (9, False, False)):
            book = Book(bound=2, looks=("written",), late=late, again=again, spares=spares, grain=2)
            self.assertEqual(list(faults(MIXED, Rule.seldom(3), book, 5)), faults_of(MIXED, Rule.seldom(3), book, 5))

    def test_up_to_eight_steps(self):
        way = Way([MAKE, READ], [(0, 1, 1, 2), (1, 1, 2, 2)])
        book = Book(bound=3, looks=("written",))
        for many in range(2, 9):
            self.assertEqual(list(faults(way, ALWAYS, book, many)), faults_of(way, ALWAYS, book, many))

    def test_each_one_is_a_fault(self):
        for way, rule, book in some_uses(15, seed=5, longest=3):
            for value in list(faults(way, rule, book, 3))[:100]:
                self.assertIs(is_fault(way, rule, book, value), True)

    def test_the_book_as_it_is_when_the_iteration_begins(self):
        book = Book(bound=1)
        found = faults(WAY, ALWAYS, book, 3)
        book.bound = 4
        expected = faults_of(WAY, ALWAYS, Book(bound=4), 3)
        self.assertEqual(next(found), expected[0])
        for part, value in (("bound", 0), ("how", "from"), ("late", 9), ("again", False), ("grain", 5), ("day", 3),
                            ("looks", ("written",)), ("spares", True)):
            book[part] = value
        self.assertEqual(list(found), expected[1:])
        self.assertEqual(book.bound, 0)

    def test_the_book_is_not_changed(self):
        book = Book(bound=1, grain=2, late=1)
        list(faults(WAY, ALWAYS, book, 3))
        self.assertEqual(book, Book(bound=1, grain=2, late=1))

    def test_no_faults(self):
        self.assertEqual(list(faults(WAY, ALWAYS, Book(bound=6), 4)), [])
        self.assertEqual(list(faults(Way([MAKE], []), ALWAYS, Book(bound=0, how="from"), 8)), [])

    def test_one_by_one(self):
        way = Way([MAKE, READ], [(0, 1, 10 ** 9, 10 ** 9), (1, 1, 10 ** 9, 10 ** 9)])
        found = faults(way, ALWAYS, Book(bound=10 ** 9 - 3, grain=1, late=10 ** 9), 8)
        self.assertEqual([next(found) for k in range(3)],
                         [(((0, 0), (1, 10 ** 9)), at, then) for at, then in
                          ((10 ** 9 - 2, 10 ** 9 - 2), (10 ** 9 - 2, 10 ** 9 - 1), (10 ** 9 - 1, 10 ** 9 - 1))])

    def test_errors_come_when_the_iteration_begins(self):
        for told, error in (((None, None, None, None), NoWay), ((WAY, None, None, 2), NoRule), ((WAY, ALWAYS, 5, 2), NoBook),
                            ((WAY, ALWAYS, Book(bound=1), 1), NoRow), ((ENDLESS, ALWAYS, Book(bound=1), 2), NoEnd)):
            caught(error, next, faults(*told))

    def test_errors_in_their_order(self):
        book = Book(bound=1)
        for value in odd_objects() + [[MAKE]]:
            error = caught(NoWay, next, faults(value, None, None, None))
            self.assertEqual(error.kind, "way")
            self.assertIs(error.index, value)
            self.assertIs(caught(NoRule, next, faults(ENDLESS, value, None, None)).value, value)
            self.assertEqual(caught(NoBook, next, faults(ENDLESS, ALWAYS, value, None)).part, "book")
        for value in odd_objects() + [0, 1, 9, -1, FAR, Moment(2)]:
            for way in (WAY, ENDLESS):
                self.assertIs(caught(NoRow, next, faults(way, ALWAYS, book, value)).value, value)
        for many in range(2, 9):
            caught(NoEnd, next, faults(ENDLESS, ALWAYS, book, many))
        anew = Way([MAKE, READ], [(0, 1, 1, 1), (1, 0, 3, None, "anew")])
        caught(NoEnd, next, faults(anew, ALWAYS, Book(bound=10 ** 12), 2))

    def test_names_of_arguments(self):
        self.assertEqual(list(faults(way=WAY, rule=ALWAYS, book=Book(bound=6), many=2)), [])


if __name__ == "__main__":
    unittest.main()
