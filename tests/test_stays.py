import time
import unittest

from agedfiles.books import Book
from agedfiles.errors import NoBook, NoRule, NoWay
from agedfiles.rules import Rule
from agedfiles.stays import stay
from agedfiles.ways import Way
from tests.helpers import caught, odd_objects
from tests.model import CHOICES, MARKS, latest_age, states_of, stays_of
from tests.some_ways import MAKE, READ, RENAME, RULES, WAY, WRITE, great_way, some_uses

ALWAYS, NEVER = Rule.always(), Rule.never()
CAP = 60
FAR = 10 ** 9
# Unpacked, set back, read and renamed, with no circle: all its lives have at most four steps.
SHORT = Way([("unpack", 4), READ, ("setback", 6), RENAME],
            [(0, 1, 1, 3), (1, 2, 2, 2, "held"), (0, 2, 1, 1), (2, 3, 1, 2), (1, 3, 1, 1), (3, 0, 2, 5, "anew")])


def ends(found):
    return min(found), max(found)


class OneByOneTest(unittest.TestCase):
    def test_example_of_the_document(self):
        self.assertEqual(stay(WAY, ALWAYS, Book(bound=10, period=5, late=2)), (11, 17))

    def test_each_part_of_a_book(self):
        plain = {"bound": 3}
        changes = [{}] + [{part: value} for part, values in (
            ("bound", (0, 1, 5, 9)), ("looks", CHOICES), ("how", ("from",)), ("day", (2, 3)), ("grain", (2, 3, 5)),
            ("spares", (True,)), ("late", (1, 4, 11)), ("again", (False,)), ("period", (2, 4, 5, 11))) for value in values]
        for rule in RULES:
            for one in changes:
                for other in changes:
                    book = Book(**{**plain, **one, **other})
                    self.assertEqual(stay(SHORT, rule, book), ends(stays_of(SHORT, rule, book, 4)), (rule.word, book.parts()))

    def test_some_ways_without_circles(self):
        many = 0
        for way, rule, book in some_uses(900, seed=31, longest=3):
            links = [arrow for arrow in way.arrows() if arrow[4] != "anew"]
            # Arrows to greater numbers alone lead to no circle.
            if all(arrow[0] < arrow[1] for arrow in links):
                many += 1
                found = stays_of(way, rule, book, 5)
                self.assertEqual(stay(way, rule, book), ends(found), (way.nodes(), way.arrows(), rule.word, book.parts()))
        self.assertGreater(many, 30)

    def test_lives_of_any_way_lie_between(self):
        tight = 0
        for way, rule, book in some_uses(60, seed=32, longest=3):
            least, most = stay(way, rule, book)
            found = ends(stays_of(way, rule, book, 3))
            self.assertTrue(least <= found[0] and found[1] <= most)
            tight += found == (least, most)
        self.assertGreater(tight, 20)


class StatesTest(unittest.TestCase):
    def by_states(self, way, rule, book, states):
        """The ends by all states of a way; ages of the cap are endless, and older than each threshold here."""
        seen = [latest_age(ages, book.looks) + rounded for node, ages in states for rounded in range(book.grain)]
        left = [max(0, book.threshold() - age) for age in seen]
        return min(left), max(left) + book.period - 1 + book.late

    def test_against_all_states(self):
        zeros = 0
        for way, rule, book in some_uses(60, seed=33) + some_uses(60, ends=False, seed=34):
            states = states_of(way, rule, CAP)
            for looks in (book.looks, ("read",), ("written",), MARKS):
                for bound in (0, 3, 8, 18):
                    made = book.remade(looks=looks, bound=bound)
                    found = stay(way, rule, made)
                    self.assertEqual(found, self.by_states(way, rule, made, states), (way.nodes(), way.arrows(), made.parts()))
                    zeros += found[0] == 0
        self.assertGreater(zeros, 200)


class StayTest(unittest.TestCase):
    def test_reads_that_are_seldom_marked(self):
        book = Book(bound=15)
        self.assertEqual(stay(WAY, Rule.seldom(10), book), (7, 16))
        self.assertEqual(stay(WAY, Rule.seldom(11), book), (6, 16))
        chain = Way([MAKE, READ, READ, READ], [(0, 1, 1, 1), (1, 2, 4, 4), (2, 3, 4, 5)])
        # The third read marks by an age of 9 alone.
        self.assertEqual(stay(chain, Rule.seldom(9), book), (8, 16))
        self.assertEqual(stay(chain, Rule.seldom(10), book), (7, 16))
        self.assertEqual(stay(chain, Rule.seldom(5), book), (12, 16))
        self.assertEqual(stay(chain, Rule.seldom(4), book), (16, 16))
        self.assertEqual(stay(chain, Rule.seldom(2000), book), (7, 16))

    def test_the_youngest_file_may_be_an_old_one(self):
        way = Way([("unpack", 5)], [])
        self.assertEqual(stay(way, ALWAYS, Book(bound=7, looks=("written",), period=3)), (3, 5))
        self.assertEqual(stay(way, ALWAYS, Book(bound=7, looks=("written", "changed"), period=3)), (8, 10))

    def test_a_file_that_is_old_when_its_last_deed_is_done(self):
        way = Way([MAKE, ("setback", 20)], [(0, 1, 1, 7)])
        book = Book(bound=20, looks=("read", "written"), how="from")
        for period in (1, 5, 21, 50):
            for late in (0, 3, 100):
                made = book.remade(period=period, late=late)
                self.assertEqual(stay(way, ALWAYS, made), (0, 20 + period - 1 + late))
                # All is old: the look at the moment of the last deed itself deletes it, or the next one.
                alone = Way([("unpack", 20)], [])
                self.assertEqual(stay(alone, ALWAYS, made.remade(looks=("written",))), (0, period - 1 + late))
        self.assertEqual(stay(way, ALWAYS, book.remade(bound=21)), (1, 21))

    def test_a_threshold_of_0(self):
        self.assertEqual(stay(WAY, ALWAYS, Book(bound=0, how="from")), (0, 0))
        self.assertEqual(stay(WAY, NEVER, Book(bound=0, how="from", day=FAR, period=7, late=2)), (0, 8))
        self.assertEqual(stay(WAY, ALWAYS, Book(bound=0)), (1, 1))

    def test_circles_and_arrows_without_an_end(self):
        book = Book(bound=30)
        self.assertEqual(stay(WAY, NEVER, book), (0, 31))
        self.assertEqual(stay(WAY, NEVER, book.remade(bound=10 ** 12, day=FAR)), (0, (10 ** 12 + 1) * FAR))
        way = Way([MAKE, READ], [(0, 1, 5, None)])
        self.assertEqual(stay(way, NEVER, book), (0, 31))
        self.assertEqual(stay(way, ALWAYS, book), (31, 31))
        # Behind an arrow "anew" another file begins.
        way = Way([MAKE, WRITE], [(0, 1, 5, 6), (1, 0, 5, None, "anew")])
        self.assertEqual(stay(way, ALWAYS, book), (31, 31))
        self.assertEqual(stay(way, ALWAYS, book.remade(looks=("read",))), (25, 31))

    def test_held_files_do_not_matter(self):
        way = Way([MAKE, READ], [(0, 1, 1, 7, "held"), (1, 1, 1, 7, "held")])
        for spares in (False, True):
            self.assertEqual(stay(way, ALWAYS, Book(bound=10, spares=spares, looks=("read",))), (11, 11))

    def test_grains(self):
        for grain in (1, 2, 7, 10, 11, 100, 10 ** 6):
            for again in (False, True):
                book = Book(bound=10, grain=grain, period=4, late=9, again=again)
                self.assertEqual(stay(WAY, ALWAYS, book), (max(0, 11 - (grain - 1)), 11 + 3 + 9))

    def test_great_numbers(self):
        began = time.time()
        book = Book(bound=10 ** 12, day=FAR, period=FAR, late=FAR, grain=10 ** 6)
        way = Way([MAKE, READ, READ], [(0, 1, FAR, FAR), (1, 2, 1, FAR)])
        edge = (10 ** 12 + 1) * FAR
        self.assertEqual(stay(way, NEVER, book), (edge - 2 * FAR - 10 ** 6 + 1, edge + 2 * FAR - 1))
        self.assertEqual(stay(way, NEVER, book.remade(bound=0)), (0, FAR + 2 * FAR - 1))
        for seed in range(4):
            for rule in (ALWAYS, NEVER, Rule.seldom(2000)):
                least, most = stay(great_way(seed), rule, book.remade(looks=("read",)))
                self.assertTrue(0 <= least <= most)
        self.assertLess(time.time() - began, 20)

    def test_names_of_arguments_and_the_book_stays(self):
        book = Book(bound=10, period=5, late=2)
        found = stay(way=WAY, rule=ALWAYS, book=book)
        self.assertIs(found.__class__, tuple)
        self.assertEqual(stay(WAY, ALWAYS, book), found)
        self.assertEqual(book, Book(bound=10, period=5, late=2))

    def test_errors_in_their_order(self):
        for value in odd_objects() + [[MAKE], 5]:
            error = caught(NoWay, stay, value, None, None)
            self.assertEqual(error.kind, "way")
            self.assertIs(error.index, value)
            self.assertIs(caught(NoRule, stay, WAY, value, None).value, value)
            self.assertEqual(caught(NoBook, stay, WAY, ALWAYS, value).part, "book")


if __name__ == "__main__":
    unittest.main()
