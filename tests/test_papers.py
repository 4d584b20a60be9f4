import time
import unittest

from agedfiles.books import Book
from agedfiles.checker import is_paper
from agedfiles.errors import NoBook, NoRule, NoWay
from agedfiles.papers import paper_of
from agedfiles.rules import Rule
from agedfiles.safety import is_safe, least_bound
from agedfiles.seldom import ages_of_read
from agedfiles.stretches import Stretches
from agedfiles.ways import Way
from tests.helpers import caught, odd_objects
from tests.model import CHOICES, faults_of, is_right
from tests.some_ways import MAKE, READ, RULES, WAY, WRITE, great_way, some_uses

ALWAYS, NEVER = Rule.always(), Rule.never()
FAR = 10 ** 9


class PaperTest(unittest.TestCase):
    def paper(self, way, rule, book):
        """The paper, which must be right exactly if the book is safe."""
        found = paper_of(way, rule, book)
        told = (way.nodes(), way.arrows(), rule.word, rule.after, book.parts(), found)
        self.assertEqual(paper_of(way, rule, book), found)
        self.assertIs(found is not None, is_safe(way, rule, book), told)
        if found is None:
            return None
        self.assertIs(is_paper(way, rule, book, found), True, told)
        word, ages, reads = found
        self.assertEqual((word, ages.__class__, reads.__class__), ("safe", tuple, tuple))
        for node, pairs in reads:
            # The fewest pairs that tell the set.
            self.assertEqual(list(pairs), Stretches(*pairs).pairs())
            self.assertEqual(list(pairs), ages_of_read(way, rule, node).pairs())
            self.assertLessEqual(len(pairs), 1000)
        if rule.word != "seldom":
            self.assertEqual(reads, ())
        return found

    def test_example_of_the_document(self):
        paper = paper_of(WAY, Rule.seldom(10), Book(bound=15))
        found = [paper[2], is_paper(WAY, Rule.seldom(10), Book(bound=15), paper),
                 is_paper(WAY, Rule.seldom(10), Book(bound=14), paper)]
        self.assertEqual(found, [((1, ((0, 9),)),), True, False])

    def test_some_ways(self):
        many = {True: 0, False: 0}
        for way, rule, book in some_uses(120, seed=51) + some_uses(120, ends=False, seed=52):
            for bound in (book.bound, 9, 30):
                book.bound = bound
                paper = self.paper(way, rule, book)
                many[paper is not None] += 1
                if paper is not None:
                    self.assertIs(is_right(way, rule, book, paper), True)
        self.assertGreater(min(many.values()), 100)

    def test_each_rule_and_choice_of_looks(self):
        for way, rule, book in some_uses(12, seed=53):
            for rule in RULES:
                for looks in CHOICES:
                    for bound in (1, 12):
                        self.paper(way, rule, book.remade(looks=looks, bound=bound))

    def test_papers_at_the_least_bound(self):
        found = 0
        for way, rule, book in some_uses(150, seed=54, longest=3):
            bound = least_bound(way, rule, book)
            if bound is not None:
                book.bound = bound
                paper = self.paper(way, rule, book)
                self.assertEqual(faults_of(way, rule, book, 3), [])
                if bound > 0:
                    found += 1
                    book.bound = bound - 1
                    self.assertIs(is_paper(way, rule, book, paper), False)
                    self.assertIsNone(paper_of(way, rule, book))
            else:
                self.assertIsNone(paper_of(way, rule, book.remade(bound=10 ** 12, day=FAR)))
        self.assertGreater(found, 50)

    def test_arrows_that_count(self):
        way = Way([MAKE, READ, WRITE], [(0, 1, 1, 10), (1, 2, 1, 20, "held"), (2, 0, 1, None, "anew")])
        for spares in (False, True):
            for late in (0, 1, FAR):
                for again in (False, True):
                    for grain in (1, 5):
                        for bound in (12, 13, 18, 23):
                            book = Book(bound=bound, spares=spares, late=late, again=again, grain=grain)
                            safe = bound >= (9 if spares else 19) + grain - 1 and (again or late == 0)
                            self.assertIs(self.paper(way, ALWAYS, book) is not None, safe)

    def test_no_arrow_counts(self):
        way = Way([MAKE, READ], [(0, 1, 1, None, "held"), (1, 1, 1, 9, "held")])
        for rule in RULES:
            self.assertIsNotNone(self.paper(way, rule, Book.careful(0)))
            self.assertIsNotNone(self.paper(Way([MAKE], []), rule, Book(bound=0)))
        # All looks would find it old enough, but none is at a file in use.
        self.assertIsNone(self.paper(way, ALWAYS, Book(bound=0)))
        self.assertIsNone(self.paper(Way([MAKE, READ], [(0, 1, 1, 1)]), ALWAYS, Book(bound=0, how="from")))

    def test_as_many_pairs_as_there_can_be(self):
        # Reads by even times alone: the ages 0, 2 .. 1998 do not touch one another.
        arrows = [(0, 1, 1, 1)] + [(1, 1, 2, 2)]
        way, rule = Way([MAKE, READ], arrows), Rule.seldom(2000)
        paper = self.paper(way, rule, Book(bound=1998 + 1))
        self.assertEqual(paper[2], ((1, tuple((age, age) for age in range(0, 2000, 2))),))
        self.assertIsNone(self.paper(way, rule, Book(bound=1998)))

    def test_great_ways(self):
        began = time.time()
        found = []
        for seed in range(6):
            way = great_way(seed)
            for rule in (ALWAYS, NEVER, Rule.seldom(2000), Rule.seldom(1999), Rule.seldom(77)):
                for looks in (("read",), ("read", "changed")):
                    book = Book(bound=10 ** 12, looks=looks, spares=True, grain=10 ** 6)
                    found.append(self.paper(way, rule, book))
        self.assertGreater(len(found) - found.count(None), 12)
        self.assertLess(time.time() - began, 30)

    def test_names_of_arguments_and_the_book_stays(self):
        book = Book(bound=15)
        self.assertIsNotNone(paper_of(way=WAY, rule=Rule.seldom(10), book=book))
        self.assertEqual(book, Book(bound=15))

    def test_errors_in_their_order(self):
        for value in odd_objects() + [[MAKE], 5]:
            error = caught(NoWay, paper_of, value, None, None)
            self.assertEqual(error.kind, "way")
            self.assertIs(error.index, value)
            self.assertIs(caught(NoRule, paper_of, WAY, value, None).value, value)
            self.assertEqual(caught(NoBook, paper_of, WAY, ALWAYS, value).part, "book")


if __name__ == "__main__":
    unittest.main()
