import time
import unittest

from agedfiles.books import Book
from agedfiles.errors import NoBook, NoRule, NoWay
from agedfiles.rules import Rule
from agedfiles.safety import greatest_seen, is_safe, least_bound, safe_looks
from agedfiles.seldom import ages_of_read
from agedfiles.ways import Way
from tests.helpers import caught, odd_objects
from tests.model import CHOICES, MARKS, faults_of, lives_of, marks_at, seen_by_states, states_of
from tests.some_ways import MAKE, READ, RENAME, WAY, WRITE, great_way, some_uses

ALWAYS, NEVER = Rule.always(), Rule.never()
CAP = 60
FAR = 10 ** 9
# The book spares held files; the last arrow leads to a file that is made anew.
WORDS = Way([MAKE, READ, WRITE], [(0, 1, 1, 10), (1, 2, 1, 20, "held"), (2, 0, 1, 40, "anew")])


class SeenTest(unittest.TestCase):
    def test_examples_of_the_document(self):
        rule, book = Rule.seldom(10), Book(bound=15)
        found = [ages_of_read(WAY, rule, 1).pairs(), greatest_seen(WAY, rule, book), is_safe(WAY, rule, book),
                 least_bound(WAY, rule, book)]
        self.assertEqual(found, [[(0, 9)], 15, True, 15])
        way = Way([("make",), ("read",)], [(0, 1, 6, 7), (1, 1, 6, 7)])
        self.assertEqual([ages_of_read(way, Rule.seldom(10), 1).pairs(), least_bound(way, Rule.seldom(10), Book(bound=1))],
                         [[(0, 0), (6, 7)], 13])
        book = Book(bound=10, looks=("written",))
        self.assertIsNone(least_bound(WAY, ALWAYS, book))

    def test_against_all_states(self):
        found = []
        for way, rule, book in some_uses(70, seed=13) + some_uses(70, ends=False, seed=14):
            states = states_of(way, rule, CAP)
            for looks in (book.looks, ("written",), MARKS):
                book.looks = looks
                seen = seen_by_states(way, book, states, CAP)
                self.assertEqual(greatest_seen(way, rule, book), seen, (way.nodes(), way.arrows(), rule.word, book.parts()))
                found.append(seen)
        self.assertGreater(found.count(None), 20)
        self.assertGreater(found.count(-1), 5)

    def test_against_looks_at_all_moments(self):
        for way, rule, book in some_uses(40, seed=15, longest=3):
            book.grain = 3
            seen = greatest_seen(way, rule, book)
            for start in range(book.grain):
                for row in [row for many in (1, 2, 3) for row in lives_of(way, many, start)]:
                    node, moment = row[-1]
                    marks = marks_at(way, rule, row, moment)
                    latest = max(marks[mark] - marks[mark] % book.grain for mark in book.looks)
                    for arrow in way.arrows():
                        if arrow[0] == node and (arrow[4] == "" or arrow[4] == "held" and not book.spares):
                            self.assertTrue(seen is None or moment + arrow[3] - 1 - latest <= seen)

    def test_arrows_that_count(self):
        for spares in (False, True):
            for late in (0, 1, 10 ** 9):
                for again in (False, True):
                    book = Book(bound=3, looks=("read",), spares=spares, late=late, again=again)
                    found = [9]
                    if not spares:
                        found.append(19)
                    if late and not again:
                        found.append(20 + 39)
                    self.assertEqual(greatest_seen(WORDS, ALWAYS, book), max(found))
                    self.assertEqual(greatest_seen(WORDS, ALWAYS, book.remade(grain=100)), max(found) + 99)

    def test_no_arrow_counts(self):
        held = Way([MAKE, READ], [(0, 1, 1, 10, "held"), (1, 1, 1, None, "held")])
        book = Book.careful(0)
        for way in (held, Way([MAKE], [])):
            for grain in (1, 2, 1000):
                for how in ("above", "from"):
                    made = book.remade(grain=grain, how=how)
                    self.assertEqual(greatest_seen(way, NEVER, made), -1)
                    self.assertIs(is_safe(way, NEVER, made), True)
                    self.assertEqual(least_bound(way, NEVER, made), 0)
                    self.assertEqual(least_bound(way, NEVER, made.remade(day=7)), 0)
        self.assertEqual(greatest_seen(held, ALWAYS, Book(bound=0)), None)
        self.assertEqual(greatest_seen(Way([MAKE], []), ALWAYS, Book(bound=0)), -1)

    def test_none(self):
        for way, rule, book, seen in (
                (WAY, NEVER, Book(bound=1), None), (WAY, NEVER, Book(bound=1, looks=("read",)), None),
                (WAY, ALWAYS, Book(bound=1, looks=("written", "changed")), None), (WAY, ALWAYS, Book(bound=1), 6),
                (Way([MAKE, READ], [(0, 1, 1, None)]), ALWAYS, Book(bound=1), None),
                (Way([MAKE, READ, READ], [(0, 1, 1, None, "held"), (1, 2, 1, 5)]), ALWAYS, Book.careful(1), 4),
                (Way([MAKE, READ, READ], [(0, 1, 1, None, "held"), (1, 2, 1, 5)]), NEVER, Book.careful(1), None),
                (Way([MAKE, READ, READ], [(0, 1, 1, 5, "held"), (1, 2, 1, 5), (1, 1, 1, 1, "held")]), NEVER, Book.careful(1),
                 None)):
            self.assertEqual(greatest_seen(way, rule, book), seen)
            self.assertIs(is_safe(way, rule, book.remade(bound=10 ** 12, day=FAR)), seen is not None)
            self.assertEqual(least_bound(way, rule, book), seen)

    def test_grains(self):
        for grain in (1, 2, 7, 10 ** 6):
            self.assertEqual(greatest_seen(WAY, ALWAYS, Book(bound=1, grain=grain)), 6 + grain - 1)
            self.assertEqual(greatest_seen(WAY, Rule.seldom(10), Book(bound=1, grain=grain)), 15 + grain - 1)

    def test_what_does_not_matter(self):
        book = Book(bound=1, how="from", day=60, period=50, late=40)
        self.assertEqual(greatest_seen(way=WAY, rule=ALWAYS, book=book), 6)

    def test_great_times(self):
        nodes = [("unpack", FAR)] + [READ] * 11
        way = Way(nodes, [(k, k + 1, 1, FAR) for k in range(11)])
        book = Book(bound=1, looks=("written",), grain=10 ** 6)
        self.assertEqual(greatest_seen(way, ALWAYS, book), 12 * FAR + 10 ** 6 - 2)
        self.assertEqual(least_bound(way, ALWAYS, book), 12 * FAR + 10 ** 6 - 2)


class SafeTest(unittest.TestCase):
    def test_just_below_at_and_above_the_least_bound(self):
        for day in (1, 2, 3, 5, 16, 17, 100):
            for how in ("above", "from"):
                book = Book(bound=0, how=how, day=day)
                safe = [bound for bound in range(20) if is_safe(WAY, Rule.seldom(10), book.remade(bound=bound))]
                # The greatest seen age is 15.
                self.assertEqual(safe, [bound for bound in range(20) if (bound + (how == "above")) * day > 15])
                self.assertEqual(least_bound(WAY, Rule.seldom(10), book), safe[0])

    def test_held_against_faults(self):
        many = {True: 0, False: 0}
        for way, rule, book in some_uses(150, seed=16, longest=3):
            for bound in (book.bound, 12):
                book.bound = bound
                safe = is_safe(way, rule, book)
                many[safe] += 1
                found = faults_of(way, rule, book, 3)
                self.assertFalse(safe and found)
        self.assertGreater(min(many.values()), 30)

    def test_held_against_faults_at_the_least_bound(self):
        tight = 0
        for way, rule, book in some_uses(150, seed=17, longest=3):
            bound = least_bound(way, rule, book)
            if bound is not None:
                self.assertIs(is_safe(way, rule, book.remade(bound=bound)), True)
                self.assertEqual(faults_of(way, rule, book.remade(bound=bound), 4), [])
                if bound > 0:
                    book.bound = bound - 1
                    self.assertIs(is_safe(way, rule, book), False)
                    tight += bool(faults_of(way, rule, book, 4))
            else:
                for bound in (0, 1000, 10 ** 12):
                    self.assertIs(is_safe(way, rule, book.remade(bound=bound, day=FAR)), False)
        # Some faults need longer rows.
        self.assertGreater(tight, 40)

    def test_truths(self):
        self.assertIs(is_safe(way=WAY, rule=ALWAYS, book=Book(bound=6)), True)
        self.assertIs(is_safe(WAY, ALWAYS, Book(bound=5)), False)
        self.assertIs(is_safe(WAY, NEVER, Book(bound=10 ** 12)), False)

    def test_great_bounds(self):
        way = Way([MAKE, READ], [(0, 1, 1, FAR), (1, 1, 1, FAR)])
        for bound, how, found in ((FAR - 2, "above", False), (FAR - 1, "above", True), (10 ** 12, "above", True),
                                  (FAR - 1, "from", False), (FAR, "from", True), (10 ** 12, "from", True), (0, "from", False)):
            self.assertIs(is_safe(way, ALWAYS, Book(bound=bound, how=how)), found)
        self.assertIs(is_safe(way, ALWAYS, Book(bound=0, day=FAR)), True)
        self.assertIs(is_safe(way, ALWAYS, Book(bound=0, day=FAR, grain=2)), False)


class LeastBoundTest(unittest.TestCase):
    def test_both_words_and_days(self):
        for day in (1, 2, 6, 7, 8, 100, FAR):
            for bound in (0, 5, 10 ** 12):
                self.assertEqual(least_bound(WAY, ALWAYS, Book(bound=bound, day=day)), 6 // day)
                self.assertEqual(least_bound(WAY, ALWAYS, Book(bound=bound, day=day, how="from")), 6 // day + 1)

    def test_other_parts_as_they_are(self):
        self.assertEqual(least_bound(WAY, ALWAYS, Book(bound=3, grain=5)), 10)
        self.assertIsNone(least_bound(WAY, ALWAYS, Book(bound=3, looks=("written",))))
        self.assertEqual(least_bound(way=WORDS, rule=ALWAYS, book=Book.careful(3)), 9)
        book = Book(bound=77)
        least_bound(WAY, ALWAYS, book)
        self.assertEqual(book, Book(bound=77))

    def test_bound_0(self):
        way = Way([MAKE, READ], [(0, 1, 1, 1), (1, 1, 1, 1)])
        self.assertEqual(least_bound(way, ALWAYS, Book(bound=9)), 0)
        self.assertEqual(least_bound(way, ALWAYS, Book(bound=9, how="from")), 1)
        self.assertEqual(greatest_seen(way, ALWAYS, Book(bound=9)), 0)


class SafeLooksTest(unittest.TestCase):
    def test_one_mark(self):
        self.assertEqual(safe_looks(WAY, ALWAYS, Book(bound=6)), [("read",)])
        writes = Way([MAKE, WRITE], [(0, 1, 1, 7), (1, 1, 1, 7)])
        self.assertEqual(safe_looks(writes, ALWAYS, Book(bound=6)), [("written",), ("changed",)])
        renames = Way([MAKE, RENAME], [(0, 1, 1, 7), (1, 1, 1, 7)])
        self.assertEqual(safe_looks(renames, ALWAYS, Book(bound=6, looks=("read",))), [("changed",)])
        self.assertEqual(safe_looks(Way([MAKE], []), NEVER, Book(bound=0, how="from")), [("read",), ("written",), ("changed",)])

    def test_two_marks(self):
        way = Way([MAKE, READ, WRITE], [(0, 1, 1, 7), (1, 2, 1, 7), (2, 1, 1, 7)])
        self.assertEqual(safe_looks(way, ALWAYS, Book(bound=13)), [("read",), ("written",), ("changed",)])
        self.assertEqual(safe_looks(way, ALWAYS, Book(bound=12)), [("read", "written"), ("read", "changed")])
        self.assertEqual(safe_looks(way, NEVER, Book(bound=13)), [("written",), ("changed",)])

    def test_written_and_changed(self):
        # The file is unpacked with an old mark, then written and renamed in turn.
        way = Way([("unpack", 50), RENAME, WRITE], [(0, 2, 1, 5), (1, 2, 1, 5), (2, 1, 1, 5), (2, 2, 1, 5)])
        self.assertEqual(safe_looks(way, NEVER, Book(bound=6)), [("changed",)])

    def test_three_marks_are_never_needed(self):
        # The mark "changed" is never earlier than "written": "read" and "changed" do as well as all three.
        found = {}
        for way, rule, book in some_uses(400, seed=18):
            looks = safe_looks(way, rule, book)
            for choice in looks or [()]:
                found[len(choice)] = found.get(len(choice), 0) + 1
            self.assertEqual(is_safe(way, rule, book.remade(looks=MARKS)), looks != [])
        self.assertEqual(sorted(found), [0, 1, 2])

    def test_none_is_enough(self):
        self.assertEqual(safe_looks(WAY, NEVER, Book(bound=100)), [])
        self.assertEqual(safe_looks(WAY, ALWAYS, Book(bound=5)), [])

    def test_against_all_choices(self):
        for way, rule, book in some_uses(80, seed=19, ends=False):
            safe = [looks for looks in CHOICES if is_safe(way, rule, book.remade(looks=looks))]
            least = [looks for looks in safe if not any(set(less) < set(looks) for less in safe)]
            kept = book.twin()
            self.assertEqual(safe_looks(way, rule, book), least)
            self.assertEqual(book, kept)

    def test_names_of_arguments_and_new_lists(self):
        book = Book(bound=6)
        safe_looks(way=WAY, rule=ALWAYS, book=book).clear()
        self.assertEqual(safe_looks(WAY, ALWAYS, book), [("read",)])


class AllTest(unittest.TestCase):
    def test_great_ways(self):
        began = time.time()
        for seed in range(4):
            way = great_way(seed)
            for rule in (ALWAYS, NEVER, Rule.seldom(2000)):
                book = Book(bound=10 ** 6, spares=True, grain=10 ** 6)
                bound = least_bound(way, rule, book)
                if bound is not None:
                    self.assertIs(is_safe(way, rule, book.remade(bound=bound)), True)
                safe_looks(way, rule, book)
        self.assertLess(time.time() - began, 30)

    def test_errors_in_their_order(self):
        for call in (greatest_seen, is_safe, least_bound, safe_looks):
            for value in odd_objects() + [[MAKE], 5]:
                error = caught(NoWay, call, value, None, None)
                self.assertEqual(error.kind, "way")
                self.assertIs(error.index, value)
                self.assertIs(caught(NoRule, call, WAY, value, None).value, value)
                self.assertEqual(caught(NoBook, call, WAY, ALWAYS, value).part, "book")


if __name__ == "__main__":
    unittest.main()
