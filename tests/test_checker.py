import random
import time
import unittest

from agedfiles.ages import greatest_age
from agedfiles.books import Book
from agedfiles.checker import is_paper
from agedfiles.errors import NoBook, NoRule, NoWay
from agedfiles.moments import Moment
from agedfiles.papers import paper_of
from agedfiles.rules import Rule
from agedfiles.safety import is_safe, least_bound
from agedfiles.seldom import ages_of_read
from agedfiles.stretches import Stretches
from agedfiles.ways import Way
from tests.helpers import caught, odd_objects
from tests.model import CHOICES, MARKS, is_right
from tests.some_ways import MAKE, READ, RENAME, RULES, TOUCH, WAY, WRITE, great_way, some_uses

ALWAYS, NEVER = Rule.always(), Rule.never()
FAR = 10 ** 9
CHANGED, READ_ONLY, WRITTEN = ("changed",), ("read",), ("written",)
# Only the last arrow counts for a book that spares held files.
LINE = Way([("unpack", 9), READ, WRITE, RENAME],
           [(0, 1, 1, 4, "held"), (1, 2, 2, 3, "held"), (2, 3, 1, 5, "held"), (3, 3, 1, 2, "held"), (2, 1, 3, 6)])
SPARING = Book(bound=5, spares=True)


class HandTest(unittest.TestCase):
    def check(self, told, way, rule, book, ages, reads=()):
        paper = ("safe", tuple(ages), tuple(reads))
        self.assertIs(is_paper(way, rule, book, paper), told, paper)
        self.assertIs(is_right(way, rule, book, paper), told, paper)
        if told:
            self.assertIs(is_safe(way, rule, book), True)

    def test_1_marks_that_are_surely_set(self):
        for rule in RULES:
            for deed, backs in ((WRITE, {"written": 0, "changed": 0}), (RENAME, {"changed": 0}),
                                (TOUCH, {"read": 0, "written": 0, "changed": 0}),
                                (("setback", 4), {"read": 4, "written": 4, "changed": 0})):
                way = Way([("unpack", 7), deed], [(0, 1, 1, 4, "held"), (1, 1, 1, 2)])
                for looks in CHOICES:
                    for n in (0, 3, 4, 5):
                        right = any(mark in looks and back <= n for mark, back in backs.items())
                        self.check(right, way, rule, Book.careful(99), [(1, looks, n), (1, ("changed",), 0)])
                for looks in CHOICES:
                    for n in (0, 6, 7):
                        ages = [(0, looks, n), (1, ("changed",), 0)]
                        self.check(looks != WRITTEN or n == 7, way, rule, Book.careful(99), ages)

    def test_1_reads_that_always_mark(self):
        ages = [(0, MARKS, 0), (1, READ_ONLY, 0)]
        self.check(True, WAY, ALWAYS, Book(bound=6), ages)
        self.check(False, WAY, ALWAYS, Book(bound=5), ages)
        self.check(False, WAY, NEVER, Book(bound=6), ages)
        self.check(False, WAY, Rule.seldom(1), Book(bound=6), ages)
        # A row of more marks says less, one of other marks may not serve.
        self.check(False, WAY, ALWAYS, Book(bound=6, looks=READ_ONLY), [(0, MARKS, 0), (1, READ_ONLY, 0)])
        self.check(True, WAY, ALWAYS, Book(bound=6, looks=READ_ONLY), [(0, READ_ONLY, 0), (1, READ_ONLY, 0)])
        self.check(False, WAY, ALWAYS, Book(bound=6, looks=("written", "changed")), ages)

    def test_2_reads_that_seldom_mark(self):
        rule, book = Rule.seldom(10), Book(bound=15)
        reads = [(1, ((0, 9),))]
        for looks in CHOICES:
            for n in (0, 8, 9):
                right = n == 9 and "read" in looks
                self.check(right, WAY, rule, book, [(0, looks, 0), (1, looks, n)], reads)
        ages = [(0, MARKS, 0), (1, MARKS, 9)]
        self.check(True, WAY, rule, book, ages, reads)
        self.check(False, WAY, rule, book, ages)
        self.check(False, WAY, rule, Book(bound=14), ages, reads)
        self.check(False, WAY, Rule.seldom(11), book, ages, reads)
        self.check(False, WAY, rule, book, ages, [(1, ((0, None),))])
        self.check(True, WAY, rule, Book(bound=16), [(0, MARKS, 0), (1, MARKS, 10)], [(1, ((0, 10),))])
        self.check(True, WAY, rule, book, [(0, MARKS, 1), (1, MARKS, 9)], reads)

    def test_3_marks_that_stay(self):
        self.check(True, LINE, NEVER, SPARING, [(2, WRITTEN, 0)])
        self.check(False, LINE, NEVER, SPARING, [(0, CHANGED, 0), (1, CHANGED, 4), (2, CHANGED, 0)])
        self.check(False, LINE, NEVER, SPARING, [(0, CHANGED, 0), (1, CHANGED, 6), (2, WRITTEN, 0)])
        # Of the two arrows to the read, one brings 4 and the other one 6.
        self.check(False, LINE, NEVER, SPARING, [(0, CHANGED, 0), (1, CHANGED, 5), (2, CHANGED, 0)])
        self.check(True, LINE, NEVER, SPARING, [(0, CHANGED, 0), (1, CHANGED, 6), (2, CHANGED, 0)])
        self.check(False, LINE, NEVER, SPARING, [(1, CHANGED, 6), (2, CHANGED, 0)])
        self.check(False, LINE, NEVER, SPARING, [(0, CHANGED, 0), (1, CHANGED, 6)])
        self.check(False, LINE, NEVER, SPARING.remade(bound=4), [(0, CHANGED, 0), (1, CHANGED, 6), (2, CHANGED, 0)])

    def test_3_with_rows_of_fewer_and_of_other_marks(self):
        for some in CHOICES:
            for looks in CHOICES:
                ages = [(2, CHANGED, 0), (2, WRITTEN, 0), (0, some, 9), (2, some, 9), (1, looks, 15)]
                # Behind the write the mark "read" may be older.
                self.check(set(some) <= set(looks) and some != READ_ONLY, LINE, NEVER, SPARING, ages)

    def test_3_needs_an_arrow_with_a_greatest_time(self):
        way = Way([MAKE, RENAME, READ], [(0, 1, 1, None, "held"), (1, 2, 1, 3), (0, 2, 1, 3, "held")])
        ages = [(0, CHANGED, 0), (1, CHANGED, 0), (2, CHANGED, 3)]
        self.check(True, way, NEVER, SPARING, ages)
        self.check(False, way, NEVER, SPARING, ages + [(1, WRITTEN, FAR), (0, WRITTEN, 0)])
        self.check(False, way, NEVER, SPARING, ages + [(2, WRITTEN, FAR), (0, WRITTEN, 0)])
        self.check(False, way, NEVER, Book(bound=99), ages)

    def test_3_is_for_deeds_that_do_not_make(self):
        way = Way([MAKE, ("unpack", 8), WRITE], [(0, 2, 1, 3), (1, 2, 1, 3), (2, 1, 1, 1, "anew"), (2, 2, 1, 1)])
        rows = [(0, WRITTEN, 0), (2, WRITTEN, 0)]
        self.check(True, way, NEVER, Book(bound=10, looks=WRITTEN), rows + [(1, WRITTEN, 8)])
        self.check(False, way, NEVER, Book(bound=10, looks=WRITTEN), rows + [(1, WRITTEN, 7)])

    def test_3_for_deeds_that_set_some_marks(self):
        way = Way([("unpack", 8), ("setback", 20), RENAME], [(0, 1, 1, 3, "held"), (1, 2, 1, 3), (0, 2, 1, 2, "held")])
        rows = [(0, MARKS, 0), (1, MARKS, 0), (2, MARKS, 0)]
        self.check(True, way, ALWAYS, SPARING, rows)
        # The rename leaves "written" as it is.
        for n in (9, 10, 22, 23, 24):
            ages = rows + [(0, WRITTEN, 8), (1, WRITTEN, 20), (2, WRITTEN, n)]
            self.check(n >= 23, way, ALWAYS, SPARING, ages)
            self.check(n >= 23, way, ALWAYS, SPARING, ages[:-1] + [(2, ("read", "written"), n)])
        # No mark of looks is one that it leaves: rest is empty.
        self.check(False, way, ALWAYS, SPARING, rows + [(1, ("read", "written"), 19), (0, ("read", "written"), 0)])

    def test_rows_that_hang_on_one_another(self):
        way = Way([MAKE, READ, READ], [(0, 1, 1, 2), (1, 2, 1, 3), (2, 1, 1, 1)])
        for n in range(0, 40, 3):
            for m in range(0, 40, 3):
                self.check(False, way, NEVER, Book(bound=99), [(0, MARKS, 0), (1, MARKS, n), (2, MARKS, m)])
        self.check(False, WAY, NEVER, Book(bound=99), [(0, MARKS, 0), (1, MARKS, 50), (1, MARKS, 43), (1, MARKS, 57)])

    def test_arrows_that_count(self):
        way = Way([MAKE, READ, WRITE], [(0, 1, 1, 10), (1, 2, 1, 20, "held"), (2, 0, 1, 40, "anew")])
        rows = [(0, READ_ONLY, 0), (1, READ_ONLY, 0), (2, CHANGED, 0)]
        for spares in (False, True):
            for late in (0, 1):
                for again in (False, True):
                    for bound in (8, 9, 18, 19, 38, 39):
                        book = Book(bound=bound, spares=spares, late=late, again=again)
                        needed = {0: True, 1: not spares, 2: late == 1 and not again}
                        right = all(bound >= (9, 19, 39)[node] for node in needed if needed[node])
                        self.check(right, way, ALWAYS, book, rows)
                        for node in range(3):
                            self.check(right and not needed[node], way, ALWAYS, book, rows[:node] + rows[node + 1:])

    def test_grains(self):
        ages = [(0, MARKS, 0), (1, MARKS, 0)]
        for grain in (1, 2, 7):
            for bound in range(4, 15):
                self.check(bound >= 6 + grain - 1, WAY, ALWAYS, Book(bound=bound, grain=grain), ages)
                self.check(bound > 6 + grain - 1, WAY, ALWAYS, Book(bound=bound, grain=grain, how="from"), ages)

    def test_sets_of_reads(self):
        way = Way([MAKE, READ, READ, WRITE], [(0, 1, 1, 2, "held"), (1, 2, 3, 4, "held"), (2, 3, 1, 1, "held"),
                                              (3, 1, 1, 1, "held"), (2, 2, 3, 3)])
        rule = Rule.seldom(10)
        ages = [(2, READ_ONLY, 9)]
        good = [(1, ((0, 0),)), (2, ((0, 0), (3, 9)))]
        book = Book(bound=11, spares=True)
        self.check(True, way, rule, book, ages, good)
        self.check(True, way, rule, book, ages, good[::-1])
        for told, reads in (
                (False, [good[1]]), (False, [good[0]]), (True, [good[0], (2, ((5, 9), (3, 4), (0, 6), (9, 9), (0, 0)))]),
                (True, [(1, ((0, 0), (0, 0))), (2, ((0, 9),))]), (False, [(1, ((0, 1),)), (2, ((0, 0), (3, 8)))]),
                (False, [(1, ((1, 5),)), (2, ((0, 9),))]), (False, [good[0], (2, ((3, 9),))]),
                (True, [(1, ((0, 5),)), (2, ((0, 9),))]), (False, [(1, ((0, 0),)), (2, ((0, 0), (4, 9)))]),
                (True, [(1, ((0, 0), (50, 90))), (2, ((0, 9),))]), (True, [(1, ((0, None),)), (2, ((0, 9),))]),
                (False, [(1, ((0, 0),)), (2, ((0, 10),))]), (False, [(1, ((0, 0),)), (2, ((0, 9), (2000, 2000)))])):
            self.check(told, way, rule, book, ages, reads)
        # The circle of the second read by times of 3 brings 0 again only by ages of 10 and more.
        self.check(True, way, Rule.seldom(13), Book(bound=14, spares=True), [(2, READ_ONLY, 12)],
                   [good[0], (2, ((0, 0), (3, 4), (6, 7), (9, 10), (12, 12)))])
        self.check(False, way, Rule.seldom(13), Book(bound=14, spares=True), [(2, READ_ONLY, 12)],
                   [good[0], (2, ((3, 4), (6, 7), (9, 10), (12, 12)))])
        self.check(True, way, Rule.seldom(2000), SPARING.remade(bound=2001), [(2, READ_ONLY, 1999)],
                   [good[0], (2, ((0, 0), (3, 1999)))])

    def test_a_set_of_a_read_needs_0_where_it_may_mark(self):
        way = Way([MAKE, READ, READ], [(0, 1, 1, 2), (1, 2, 3, 4)])
        book = Book(bound=9, looks=READ_ONLY)
        ages = [(0, READ_ONLY, 0), (1, READ_ONLY, 1)]
        for after, first, second, told in (
                (4, ((0, 0),), ((3, 3),), False), (4, ((0, 0),), ((0, 0), (3, 3)), True), (5, ((0, 0),), ((3, 4),), True),
                (5, ((0, 0),), ((4, 4),), False), (3, ((0, 0),), ((0, 0),), True), (3, ((0, 0),), ((1, 1),), False),
                (5, ((0, 1),), ((3, 4),), False), (5, ((0, 1),), ((3, 4), (0, 0)), True), (5, ((1, 1),), ((0, 4),), False)):
            self.check(told, way, Rule.seldom(after), book, ages, [(1, first), (2, second)])


class BentTest(unittest.TestCase):
    def setUp(self):
        self.use = WAY, Rule.seldom(10), Book(bound=15)
        self.ages = ((0, MARKS, 0), (1, MARKS, 9))
        self.reads = ((1, ((0, 9),)),)

    def test_right_ones(self):
        for ages in (self.ages, self.ages[::-1], self.ages * 3, self.ages + ((1, MARKS, 10 ** 80), (1, ("read",), 9))):
            for reads in (self.reads, ((1, ((0, 4), (5, 9))),), ((1, ((3, 9), (0, 5), (0, 0))),)):
                self.assertIs(is_paper(*self.use, ("safe", ages, reads)), True)
        paper = ("safe", ((0, MARKS, 0), (1, MARKS, 0)), ())
        self.assertIs(is_paper(way=WAY, rule=ALWAYS, book=Book(bound=6), value=paper), True)

    def test_wrong_forms(self):
        ages, reads = self.ages, self.reads
        odd = odd_objects() + [5, -1, "read", Moment(5), Stretches((0, 9)), [0, 9]]
        wrong = odd + [(), ("safe",), ("safe", ages), ["safe", ages, reads], ("safe", ages, reads, ()), ("Safe", ages, reads),
                       (b"safe", ages, reads), ("safe", reads, ages), ("safe", list(ages), reads), ("safe", ages, list(reads)),
                       ("safe", ages, reads * 2), ("safe", ages, reads + ((1, ((0, 8),)),)), ("safe", (), reads),
                       ("safe", ages, ()), ("safe", ages + ages[0], reads), ("safe", ages, reads[0])]
        wrong += [(value, ages, reads) for value in odd]
        wrong += [("safe", value, reads) for value in odd]
        wrong += [("safe", ages, value) for value in odd]
        wrong += [("safe", ages + (value,), reads) for value in odd + [list(ages[0]), ages[0][:2], ages[0] + (0,)]]
        wrong += [("safe", ages, reads + (value,)) for value in odd + [list(reads[0]), reads[0][:1], reads[0] + (0,)]]
        wrong += [("safe", ages + ((value, MARKS, 9),), reads) for value in odd[:-6] + [-1, 2, Moment(0)]]
        looks = odd + ["read", [*MARKS], (), ("read", "read"), ("written", "read"), ("Read",), MARKS + ("read",), (0,)]
        wrong += [("safe", ages + ((1, value, 9),), reads) for value in looks]
        wrong += [("safe", ages + ((1, MARKS, value),), reads) for value in odd[:-6] + [-1, Moment(9), "9", 8]]
        wrong += [("safe", ages, ((value, ((0, 9),)), *reads)) for value in odd[:-6] + [0, 2, -1, Moment(1)]]
        pairs = odd + [(value,) for value in odd] + [[(0, 9)], ([0, 9],), ((0, 9, 9),), ((0,),), ((0, True),), ((False, 9),),
                                                     ((9, 0),), ((-1, 9),), ((None, 9),), (), ((0, 9), None), ((0, "9"),)]
        wrong += [("safe", ages, ((1, value),)) for value in pairs]
        for value in wrong:
            self.assertIs(is_paper(*self.use, value), False, repr(value)[:200])

    def test_true_and_false_are_no_numbers(self):
        for ages, reads in ((((False, MARKS, 0), (1, MARKS, 9)), self.reads), (((0, MARKS, False), (1, MARKS, 9)), self.reads),
                            (((0, MARKS, 0), (True, MARKS, 9)), self.reads), (self.ages, ((True, ((0, 9),)),)),
                            (self.ages, ((1, ((False, 9),)),))):
            self.assertEqual(("safe", ages, reads), ("safe", self.ages, self.reads))
            self.assertIs(is_paper(*self.use, ("safe", ages, reads)), False)

    def test_reads_without_a_rule_of_the_word_seldom(self):
        for rule in (ALWAYS, NEVER):
            self.assertIs(is_paper(WAY, rule, Book(bound=99), ("safe", ((0, MARKS, 0), (1, MARKS, 0)), self.reads)), False)
        self.assertIs(is_paper(WAY, ALWAYS, Book(bound=99), ("safe", ((0, MARKS, 0), (1, MARKS, 0)), ())), True)

    def test_1000_pairs(self):
        for many in (999, 1000, 1001, 2000):
            for pairs in (((0, 9),) * many, tuple((0, 9) for k in range(many - 1)) + ((3, 5),)):
                self.assertIs(is_paper(*self.use, ("safe", self.ages, ((1, pairs),))), many <= 1000)
        way, rule = Way([MAKE, READ], [(0, 1, 1, 1), (1, 1, 2, 2)]), Rule.seldom(2000)
        pairs = tuple((age, age) for age in range(0, 2000, 2))
        ages = ((0, READ_ONLY, 0), (1, READ_ONLY, 1998))
        for told in (pairs, pairs[::-1], pairs[500:] + pairs[:500]):
            self.assertIs(is_paper(way, rule, Book(bound=2000), ("safe", ages, ((1, told),))), True)
        for told in (pairs + ((1, 1),), pairs[1:], pairs[:-1], pairs[:500] + pairs[501:]):
            self.assertIs(is_paper(way, rule, Book(bound=2000), ("safe", ages, ((1, told),))), False)

    def test_bent_by_one_place(self):
        source = random.Random(61)
        many = {True: 0, False: 0}
        for way, rule, book in some_uses(250, seed=62) + some_uses(100, ends=False, seed=63):
            bound = least_bound(way, rule, book)
            if bound is not None:
                book.bound = min(bound + source.choice([0, 0, 3]), 10 ** 12)
                for trial in range(25):
                    paper = some_paper(source, way, rule, book)
                    for change in range(source.choice([0, 1, 1, 2])):
                        paper = bent(source, way, paper)
                    found = is_paper(way, rule, book, paper)
                    self.assertIs(found, is_right(way, rule, book, paper), (way.nodes(), way.arrows(), rule.after, paper))
                    many[found] += 1
                    book.bound = max(0, book.bound - 1)
                    if is_paper(way, rule, book, paper):
                        self.assertIs(is_safe(way, rule, book), True)
                    book.bound = book.bound + 1
        self.assertGreater(min(many.values()), 1000)


def some_paper(source, way, rule, book):
    """A right paper, maybe with further rows that are right, and with wider sets."""
    word, ages, reads = paper_of(way, rule, book)
    for node in range(len(way)):
        for looks in CHOICES:
            age = greatest_age(way, rule, looks, node)
            if age is not None and source.random() < 0.3:
                ages += ((node, looks, age + source.choice([0, 0, 1, 5])),)
    if rule.word == "seldom":
        reads = tuple((node, tuple(source.sample(pairs, len(pairs)))) for node, pairs in (
            (node, ages_of_read(way, rule, node).pairs()) for node in range(len(way)) if way[node] == READ))
    return word, tuple(source.sample(ages, len(ages))), reads


def bent(source, way, paper):
    """The paper with something else at one place."""
    word, ages, reads = paper
    ages, reads = [list(row) for row in ages], [[node, [list(pair) for pair in pairs]] for node, pairs in reads]
    if reads and source.random() < 0.6:
        row = source.choice(reads)
        pair = source.choice(row[1])
        kind = source.choice(["drop", "low", "high", "high", "end", "cut", "add"])
        if kind == "drop":
            reads.remove(row)
        elif kind == "low":
            pair[0] = max(0, min(pair[0] + source.choice([-1, 1]), pair[0] if pair[1] is None else pair[1]))
        elif kind == "high" and pair[1] is not None:
            pair[1] = max(pair[0], pair[1] + source.choice([-1, 1, 5]))
        elif kind == "end":
            pair[1] = None
        elif kind == "cut" and len(row[1]) > 1:
            row[1].remove(pair)
        elif kind == "add":
            low = source.randint(0, 9)
            row[1].append([low, low + source.randint(0, 3)])
    elif ages:
        row = source.choice(ages)
        kind = source.choice(["drop", "less", "less", "more", "looks", "node"])
        if kind == "drop":
            ages.remove(row)
        elif kind == "less":
            row[2] = max(0, row[2] - 1)
        elif kind == "more":
            row[2] = row[2] + 1
        elif kind == "looks":
            row[1] = source.choice(CHOICES)
        elif kind == "node":
            row[0] = source.randrange(len(way))
    return (word, tuple(tuple(row) for row in ages),
            tuple((node, tuple(tuple(pair) for pair in pairs)) for node, pairs in reads))


class AllTest(unittest.TestCase):
    def test_great_papers(self):
        began = time.time()
        for seed in range(4):
            way, rule = great_way(seed), Rule.seldom(2000)
            book = Book(bound=10 ** 12, day=FAR, spares=True, looks=READ_ONLY)
            reads = [node for node in range(12) if way[node] == READ]
            pairs = tuple((age, age) for age in range(0, 1999, 2)) + ((0, 0),)
            self.assertEqual(len(pairs), 1001)
            for told in (pairs[:1000], tuple((0, age) for age in range(1000)), ((0, 1999),) * 1000, ((0, 10 ** 80),) * 1000):
                ages = tuple((node, looks, 10 ** 40) for node in range(12) for looks in CHOICES) * 12
                paper = ("safe", ages, tuple((node, told) for node in reads))
                self.assertIn(is_paper(way, rule, book, paper), (True, False))
        self.assertLess(time.time() - began, 20)

    def test_great_numbers(self):
        way = Way([("unpack", FAR), READ], [(0, 1, 1, FAR)])
        for n, told in ((FAR - 1, False), (FAR, True), (2 * FAR, False), (10 ** 80, False)):
            book = Book(bound=2 * FAR - 1, looks=WRITTEN)
            self.assertIs(is_paper(way, ALWAYS, book, ("safe", ((0, WRITTEN, n),), ())), told)

    def test_errors_in_their_order(self):
        for value in odd_objects() + [[MAKE], 5]:
            error = caught(NoWay, is_paper, value, None, None, None)
            self.assertEqual(error.kind, "way")
            self.assertIs(error.index, value)
            self.assertIs(caught(NoRule, is_paper, WAY, value, None, None).value, value)
            self.assertEqual(caught(NoBook, is_paper, WAY, ALWAYS, value, None).part, "book")


if __name__ == "__main__":
    unittest.main()
