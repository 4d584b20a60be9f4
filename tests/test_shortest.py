import time
import unittest

from agedfiles.books import Book
from agedfiles.errors import NoBook, NoRule, NoWay, TooLong
from agedfiles.faults import is_fault
from agedfiles.rules import Rule
from agedfiles.safety import is_safe, least_bound
from agedfiles.shortest import shortest_fault
from agedfiles.ways import Way
from tests.helpers import caught, odd_objects
from tests.model import CHOICES, MARKS, faults_of, fewest_steps
from tests.some_ways import MAKE, READ, RENAME, RULES, WAY, WRITE, great_way, some_uses

ALWAYS, NEVER = Rule.always(), Rule.never()
FAR = 10 ** 9
# Each deed comes 1 behind the one ahead.
CHAIN = Way([MAKE, READ], [(0, 1, 1, 1), (1, 1, 1, 1)])


class ShortestTest(unittest.TestCase):
    def steps(self, way, rule, book):
        """How many steps the fault has, None if there is none; it must be a fault."""
        fault = shortest_fault(way, rule, book)
        if fault is None:
            self.assertIs(is_safe(way, rule, book), True)
            return None
        self.assertIs(is_safe(way, rule, book), False)
        self.assertIs(is_fault(way, rule, book, fault), True, (way.nodes(), way.arrows(), rule.word, book.parts(), fault))
        self.assertEqual(shortest_fault(way, rule, book), fault)
        return len(fault[0])

    def test_example_of_the_document(self):
        book = Book(bound=10, looks=("written",))
        fault = shortest_fault(WAY, ALWAYS, book)
        found = [len(fault[0]), is_fault(WAY, ALWAYS, book, fault), least_bound(WAY, ALWAYS, book)]
        self.assertEqual(found, [3, True, None])

    def test_against_all_rows(self):
        found = []
        for way, rule, book in some_uses(150, seed=21, longest=3):
            try:
                steps = self.steps(way, rule, book)
            except TooLong:
                steps = 61
            faults = faults_of(way, rule, book, 4)
            self.assertEqual(steps if steps is None or steps < 5 else None, min(len(row) for row, at, then in faults) if faults
                             else None)
            found.append(steps)
        self.assertEqual([steps for steps in (None, 2, 3, 4) if found.count(steps) < 5], [])

    def test_against_all_states(self):
        found = []
        for way, rule, book in some_uses(60, seed=22, ends=False) + some_uses(60, seed=23):
            for bound in (book.bound, 3 * book.bound, 25):
                made = book.remade(bound=bound, day=1)
                cap = 60
                try:
                    steps = self.steps(way, rule, made)
                except TooLong as e:
                    self.assertEqual(e.limit, 60)
                    steps = 61
                expected = None if is_safe(way, rule, made) else fewest_steps(way, rule, made, cap) or 61
                self.assertEqual(steps, expected, (way.nodes(), way.arrows(), rule.word, made.parts()))
                found.append(steps)
        self.assertGreater(len([steps for steps in found if steps and steps > 8]), 20)

    def test_seldom_marked_reads(self):
        # The age of the mark is a sum of the times, less than after.
        for after in (10, 29, 30, 31, 50):
            for times in ((7, 7, 5, 5), (3, 4, 8, 8), (6, 6, 10, 11), (1, 2, 9, 9)):
                way = Way([MAKE, READ, READ, RENAME], [(0, 1, 1, 1), (1, 1, *times[:2]), (1, 2, *times[2:]), (2, 1, *times[2:]),
                                                       (2, 3, 1, 1), (0, 3, 1, 1, "held"), (3, 2, 1, 1, "held")])
                for bound in range(after + 10):
                    for spares in (False, True):
                        book = Book(bound=bound, looks=("read",), spares=spares)
                        expected = None if is_safe(way, Rule.seldom(after), book) else fewest_steps(way, Rule.seldom(after), book, 70)
                        self.assertEqual(self.steps(way, Rule.seldom(after), book), expected)

    def test_only_some_arrows_count(self):
        # Ages come about while the file is held; it is looked at ahead of the last read alone.
        for after in (20, 23, 40):
            way = Way([MAKE, READ, READ, READ], [(0, 1, 1, 1, "held"), (1, 2, 7, 7, "held"), (2, 1, 4, 6, "held"), (2, 3, 1, 1)])
            for bound in range(40):
                book = Book(bound=bound, looks=("read",), spares=True)
                expected = None if is_safe(way, Rule.seldom(after), book) else fewest_steps(way, Rule.seldom(after), book, 70)
                self.assertEqual(self.steps(way, Rule.seldom(after), book), expected)

    def test_times_that_are_longer_than_is_needed(self):
        # Ages of 1 and more at the second read bring the mark to be set at the last one: it must be set at the second.
        for after, one, other in ((50, 20, 29), (2000, 900, 1099)):
            way = Way([MAKE, READ, READ, READ, READ, RENAME],
                      [(0, 1, 1, 1, "held"), (1, 2, 1, None, "held"), (2, 3, one, one, "held"), (3, 4, other, other, "held"),
                       (4, 5, 1, 1)])
            for bound in (0, 1, 20, after - 3, after - 2):
                self.assertEqual(self.steps(way, Rule.seldom(after), Book(bound=bound, looks=("read",), spares=True)), 6)
            self.assertIsNone(shortest_fault(way, Rule.seldom(after), Book(bound=after - 1, looks=("read",), spares=True)))

    def test_one_of_several_arrows_to_a_read(self):
        # Only over the nodes 3, 4, 5 the read 6 comes to the age 40; those of 2 are too great there, and behind 8 it is 0.
        arrows = [(0, 1, 1, 1), (1, 2, 40, 40), (0, 3, 1, 1), (3, 4, 1, 1), (2, 5, 1, 50), (4, 5, 10, 10), (5, 6, 30, 30),
                  (3, 8, 1, 1), (8, 5, 1, 1)]
        nodes = [MAKE, READ, READ, RENAME, READ, READ, READ, RENAME, RENAME]
        for at in range(len(arrows)):
            held = [(*arrow, "held") for arrow in arrows[at:] + arrows[:at]]
            way = Way(nodes, held + [(6, 7, 1, 1)])
            for bound in (0, 29, 30, 39):
                self.assertEqual(self.steps(way, Rule.seldom(45), Book(bound=bound, looks=("read",), spares=True)), 6)
            self.assertIsNone(shortest_fault(way, Rule.seldom(45), Book(bound=40, looks=("read",), spares=True)))

    def test_an_age_of_just_after(self):
        for after, least, most in ((10, 10, 10), (10, 1, 10), (11, 11, 11), (2000, 2000, 2000)):
            way = Way([MAKE, READ, READ, RENAME], [(0, 1, 1, 1, "held"), (1, 2, least, most, "held"), (2, 3, 5, 5)])
            book = Book(bound=3 if least == most else 4 + 8, looks=("read",), spares=True)
            self.assertEqual(self.steps(way, Rule.seldom(after), book), 4)
            self.assertIsNone(shortest_fault(way, Rule.seldom(after), book.remade(bound=book.bound + 1)))

    def test_words_of_arrows(self):
        way = Way([MAKE, READ, WRITE], [(0, 1, 1, 10), (1, 2, 1, 20, "held"), (2, 0, 1, 40, "anew")])
        for bound, spares, late, again, steps in (
                (8, False, 0, True, 2), (8, True, 0, True, 2), (9, False, 0, True, 3), (9, True, 0, True, None),
                (18, False, 0, True, 3), (19, False, 0, True, None), (19, True, 1, True, None), (19, True, 0, False, None),
                (19, True, 1, False, 5), (19, False, 5, False, 5), (38, True, 1, False, 5), (39, True, FAR, False, None)):
            book = Book(bound=bound, spares=spares, late=late, again=again)
            self.assertEqual(self.steps(way, ALWAYS, book), steps, (bound, spares, late, again))

    def test_a_file_made_anew_by_the_first_step(self):
        way = Way([MAKE, ("unpack", 3), READ], [(0, 1, 9, 9, "anew"), (1, 2, 1, 1, "held"), (0, 2, 1, 1)])
        book = Book(bound=7, late=1, again=False)
        self.assertEqual(shortest_fault(way, ALWAYS, book), (((0, 0), (1, 9), (2, 10)), 8, 9))
        self.assertIsNone(shortest_fault(way, ALWAYS, book.remade(bound=8)))
        anew = Way([MAKE, READ, READ], [(0, 0, 9, 9, "anew"), (0, 1, 2, 2), (1, 2, 12, 12, "held")])
        self.assertEqual(self.steps(anew, ALWAYS, book.remade(spares=True)), 3)
        self.assertEqual(self.steps(anew, ALWAYS, book), 3)
        self.assertEqual(self.steps(anew, NEVER, Book(bound=10)), 3)

    def test_a_fault_of_just_60_steps(self):
        for how in ("above", "from"):
            for many in (2, 3, 30, 59, 60):
                bound = many - 2 - (how == "above")
                if bound >= 0:
                    book = Book(bound=bound, how=how)
                    self.assertEqual(self.steps(CHAIN, NEVER, book), many)
            book = Book(bound=59 - (how == "above"), how=how)
            self.assertEqual(caught(TooLong, shortest_fault, CHAIN, NEVER, book).limit, 60)
            self.assertEqual(caught(TooLong, shortest_fault, CHAIN, NEVER, book.remade(bound=10 ** 12)).limit, 60)
            self.assertIsNone(shortest_fault(CHAIN, ALWAYS, Book(bound=10 ** 12)))

    def test_a_fault_of_just_60_steps_with_a_file_made_anew(self):
        way = Way([MAKE, READ], [(0, 1, 1, 1, "held"), (1, 1, 1, 1, "held"), (1, 0, 1, 1, "anew")])
        for bound in (0, 1, 56, 57):
            book = Book(bound=bound, how="from", spares=True, late=1, again=False)
            self.assertEqual(self.steps(way, NEVER, book), max(bound, 1) + 3)
        error = caught(TooLong, shortest_fault, way, NEVER, Book(bound=58, how="from", spares=True, late=1, again=False))
        self.assertEqual(error.limit, 60)

    def test_a_fault_of_just_60_steps_with_reads_seldom_marked(self):
        # The age 57 comes behind 59 steps; with a greater after it comes to 58 behind 60.
        for after in (58, 59, 2000):
            book = Book(bound=57, how="from", looks=("read",))
            self.assertEqual(self.steps(CHAIN, Rule.seldom(after), book), 60)
        book = Book(bound=58, how="from", looks=("read",))
        self.assertIsNone(shortest_fault(CHAIN, Rule.seldom(58), book))
        for after in (59, 2000):
            self.assertEqual(caught(TooLong, shortest_fault, CHAIN, Rule.seldom(after), book).limit, 60)

    def test_grains_and_days(self):
        for grain in (1, 2, 7, 1000):
            for day in (1, 3, 10):
                for bound in (0, 2, 5, 400):
                    book = Book(bound=bound, day=day, grain=grain, looks=("written",))
                    # The mark is seen at most grain - 1 older than it is.
                    age = max(book.threshold() - (grain - 1), 0)
                    if age < 59 * 7:
                        self.assertEqual(self.steps(WAY, ALWAYS, book), age // 7 + 2, (grain, day, bound))
                    else:
                        caught(TooLong, shortest_fault, WAY, ALWAYS, book)

    def test_great_times(self):
        way = Way([MAKE, READ], [(0, 1, 1, FAR), (1, 1, FAR, None)])
        for bound in (0, FAR - 2):
            self.assertEqual(self.steps(way, ALWAYS, Book(bound=bound)), 2)
        for bound in (FAR - 1, 10 ** 12):
            for day in (1, FAR):
                for rule in RULES:
                    self.assertEqual(self.steps(way, rule, Book(bound=bound, day=day)), 3)
        nodes = [("unpack", FAR)] + [READ] * 11
        way = Way(nodes, [(k, k + 1, 1, FAR) for k in range(11)])
        for many in range(2, 13):
            book = Book(bound=many * FAR - 2, looks=("written",))
            self.assertEqual(self.steps(way, ALWAYS, book), many)
            self.assertEqual(self.steps(way, ALWAYS, book.remade(bound=many * FAR - 1)), many + 1 if many < 12 else None)

    def test_arrows_without_a_greatest_time(self):
        way = Way([MAKE, READ, READ], [(0, 1, 5, None, "held"), (1, 2, 3, 4)])
        for bound in (0, 2, 3, 4, 100, 10 ** 12):
            book = Book(bound=bound, looks=("written",), spares=True, day=FAR)
            self.assertEqual(self.steps(way, ALWAYS, book), 3)
        self.assertEqual(self.steps(way, ALWAYS, Book(bound=2, spares=True)), 3)
        self.assertIsNone(self.steps(way, ALWAYS, Book(bound=3, spares=True)))
        self.assertEqual(self.steps(way, ALWAYS, Book(bound=10 ** 12, day=FAR)), 2)

    def test_great_ways(self):
        began = time.time()
        for seed in range(4):
            way = great_way(seed)
            for rule in (ALWAYS, NEVER, Rule.seldom(2000), Rule.seldom(700)):
                for looks in CHOICES:
                    for bound in (1000, 3000, FAR, FAR + 10 ** 6):
                        book = Book(bound=bound, looks=looks, spares=True, grain=10 ** 6)
                        try:
                            self.steps(way, rule, book)
                        except TooLong:
                            self.assertGreater(bound, FAR)
        self.assertLess(time.time() - began, 60)

    def test_the_book_stays_as_it_is(self):
        book = Book(bound=3)
        shortest_fault(way=WAY, rule=ALWAYS, book=book)
        self.assertEqual(book, Book(bound=3))

    def test_errors_in_their_order(self):
        for value in odd_objects() + [[MAKE], 5]:
            error = caught(NoWay, shortest_fault, value, None, None)
            self.assertEqual(error.kind, "way")
            self.assertIs(error.index, value)
            self.assertIs(caught(NoRule, shortest_fault, WAY, value, None).value, value)
            self.assertEqual(caught(NoBook, shortest_fault, WAY, ALWAYS, value).part, "book")


if __name__ == "__main__":
    unittest.main()
