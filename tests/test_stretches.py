import itertools
import operator
import random
import unittest

from agedfiles.errors import NoStretch
from agedfiles.moments import Moment
from agedfiles.stretches import Stretches, is_pair
from tests.helpers import Agreeable, Odd, caught, odd_objects

GREAT = 10 ** 40
WRONG_PAIRS = [None, True, 3, "ab", [1, 2], (), (1,), (1, 2, 3), (2, 1), (-1, 3), (-2, -1), (None, 3), (None, None),
               (True, 3), (0, True), (False, None), ("1", 2), (1, "2"), (1, (2,)), (Odd(), 1), (1, Odd()),
               (Agreeable(), 5), (1, Agreeable()), {1: 2}, Odd(), Agreeable(), Stretches((1, 2))]
BOUND = 14


def plain(stretches):
    """The counts below BOUND, by asking for each one."""
    return {n for n in range(BOUND) if n in stretches}


def all_sets():
    """Each set of counts below 5, without an end and with all from 5 on."""
    for size in range(6):
        for chosen in itertools.combinations(range(5), size):
            yield Stretches(*[(n, n) for n in chosen]), set(chosen)
            yield Stretches((5, None), *[(n, n) for n in chosen]), set(chosen) | set(range(5, BOUND))


def fewest(numbers, ended):
    """The fewest pairs of counts, told one by one."""
    found = []
    for n in sorted(numbers):
        if found and found[-1][1] == n - 1:
            found[-1] = (found[-1][0], n)
        else:
            found.append((n, n))
    if not ended:
        found[-1] = (found[-1][0], None)
    return found


class PairsTest(unittest.TestCase):
    def test_example_of_the_document(self):
        some = Stretches((3, 5), (9, None)) | Stretches((6, 6))
        found = [some.pairs(), 7 in some, (some & Stretches((0, 4))).pairs(), (some + 2).least(), some.has_end()]
        self.assertEqual(found, [[(3, 6), (9, None)], False, [(3, 4)], 5, False])

    def test_fewest_pairs(self):
        rows = [
            ([], []),
            ([(0, 0)], [(0, 0)]),
            ([(3, 5)], [(3, 5)]),
            ([(3, 5), (6, 7)], [(3, 7)]),
            ([(3, 5), (7, 7)], [(3, 5), (7, 7)]),
            ([(7, 7), (3, 5)], [(3, 5), (7, 7)]),
            ([(6, 7), (3, 5)], [(3, 7)]),
            ([(3, 9), (4, 5)], [(3, 9)]),
            ([(4, 5), (3, 9), (11, 12)], [(3, 9), (11, 12)]),
            ([(3, 9), (5, 12)], [(3, 12)]),
            ([(3, 5), (3, 5), (3, 5)], [(3, 5)]),
            ([(3, 5), (5, 5), (3, 3)], [(3, 5)]),
            ([(3, None), (5, 9)], [(3, None)]),
            ([(5, 9), (3, None), (12, None)], [(3, None)]),
            ([(0, 1), (10, None), (3, 8)], [(0, 1), (3, 8), (10, None)]),
            ([(0, 1), (9, None), (3, 8)], [(0, 1), (3, None)]),
            ([(4, None), (0, 3)], [(0, None)]),
            ([(0, 0), (2, 2), (4, 4), (1, 3)], [(0, 4)]),
            ([(0, None), (0, None)], [(0, None)]),
            ([(GREAT, 2 * GREAT), (3, GREAT - 1)], [(3, 2 * GREAT)]),
            ([(GREAT, 2 * GREAT), (3, GREAT - 2)], [(3, GREAT - 2), (GREAT, 2 * GREAT)]),
        ]
        for given, found in rows:
            with self.subTest(given=given):
                self.assertEqual(Stretches(*given).pairs(), found)

    def test_random_pairs(self):
        chance = random.Random(6)
        for turn in range(400):
            given = []
            for k in range(chance.randrange(6)):
                low = chance.randrange(BOUND)
                given.append((low, min(BOUND - 1, low + chance.randrange(5))))
            ended = chance.randrange(4) > 0
            if not ended:
                given.insert(0, (chance.randrange(BOUND), None))
            numbers = {n for n in range(BOUND) for low, high in given if low <= n and (high is None or n <= high)}
            with self.subTest(given=given):
                self.assertEqual(Stretches(*given).pairs(), fewest(numbers, ended))

    def test_wrong_pairs(self):
        for value in WRONG_PAIRS:
            with self.subTest(value=repr(value)):
                self.assertEqual(caught(NoStretch, Stretches, value).index, 0)
                self.assertEqual(caught(NoStretch, Stretches, (1, 2), (0, None), value, (3, 2)).index, 2)
                self.assertIs(is_pair(value), False)

    def test_first_wrong_pair_is_told(self):
        self.assertEqual(caught(NoStretch, Stretches, (1, 2), (2, 1), None).index, 1)
        self.assertEqual(caught(NoStretch, Stretches, [], (2, 1)).index, 0)

    def test_returned_list_is_new(self):
        some = Stretches((1, 2), (4, 5))
        some.pairs().append((7, 8))
        some.pairs()[0] = (0, 9)
        self.assertEqual(some.pairs(), [(1, 2), (4, 5)])

    def test_static_methods(self):
        self.assertEqual(Stretches.none().pairs(), [])
        self.assertEqual(Stretches.everything().pairs(), [(0, None)])
        self.assertEqual(Stretches.one(0).pairs(), [(0, 0)])
        self.assertEqual(Stretches.one(GREAT).pairs(), [(GREAT, GREAT)])
        self.assertEqual(Stretches.one(n=4), Stretches((4, 4)))

    def test_one_of_no_count(self):
        for value in odd_objects() + [-1]:
            with self.subTest(value=repr(value)):
                self.assertEqual(caught(NoStretch, Stretches.one, value).index, 0)


class QuestionsTest(unittest.TestCase):
    def test_in(self):
        some = Stretches((3, 5), (9, 9), (12, None))
        self.assertEqual(plain(some), {3, 4, 5, 9, 12, 13})
        self.assertIs(3 in some, True)
        self.assertIs(GREAT in some, True)
        self.assertIs(GREAT in Stretches((0, GREAT)), True)
        self.assertIs(GREAT + 1 in Stretches((0, GREAT)), False)

    def test_in_for_objects_that_are_no_counts(self):
        everything = Stretches.everything()
        for value in odd_objects() + [-1, Moment(3), everything, (0, None)]:
            with self.subTest(value=repr(value)):
                self.assertIs(value in everything, False)
                self.assertIs(value in Stretches.none(), False)

    def test_truth(self):
        self.assertIs(bool(Stretches()), False)
        self.assertIs(bool(Stretches((0, 0))), True)
        self.assertIs(bool(Stretches((4, None))), True)

    def test_least_greatest_end_and_count(self):
        rows = [
            (Stretches(), None, None, True, 0),
            (Stretches((0, 0)), 0, 0, True, 1),
            (Stretches((3, 5), (9, 12)), 3, 12, True, 7),
            (Stretches((9, 12), (3, 5), (4, 6)), 3, 12, True, 8),
            (Stretches((3, 5), (9, None)), 3, None, False, None),
            (Stretches.everything(), 0, None, False, None),
            (Stretches((1, GREAT), (2 * GREAT, 3 * GREAT)), 1, 3 * GREAT, True, 2 * GREAT + 1),
        ]
        for some, least, greatest, ended, count in rows:
            with self.subTest(pairs=some.pairs()):
                self.assertEqual(some.least(), least)
                self.assertEqual(some.greatest(), greatest)
                self.assertIs(some.has_end(), ended)
                self.assertEqual(some.count(), count)

    def test_numbers(self):
        self.assertEqual(list(Stretches().numbers()), [])
        self.assertEqual(list(Stretches((9, 11), (3, 5), (5, 6)).numbers()), [3, 4, 5, 6, 9, 10, 11])
        self.assertEqual(list(Stretches((GREAT, GREAT + 1)).numbers()), [GREAT, GREAT + 1])

    def test_numbers_without_an_end_in_part(self):
        some = Stretches((3, 4), (7, None))
        self.assertEqual(list(itertools.islice(some.numbers(), 5)), [3, 4, 7, 8, 9])
        going = Stretches((0, GREAT)).numbers()
        self.assertEqual([next(going), next(going)], [0, 1])

    def test_equality(self):
        self.assertIs(Stretches((1, 2), (3, 4)) == Stretches((1, 4)), True)
        self.assertIs(Stretches((1, 2), (3, 4)) != Stretches((1, 4)), False)
        self.assertIs(Stretches() == Stretches.none(), True)
        for other in (Stretches(), Stretches((1, 3)), Stretches((0, 4)), Stretches((1, None)),
                      Stretches((1, 4), (6, 6))):
            self.assertIs(Stretches((1, 4)) == other, False)
            self.assertIs(Stretches((1, 4)) != other, True)

    def test_never_equal_to_other_classes(self):
        class Alike:
            kept = ((1, 4),)
        for value in ([(1, 4)], (1, 4), ((1, 4),), None, Alike(), Agreeable(), Moment(1)):
            self.assertIs(Stretches((1, 4)) == value, False)
        self.assertIs(Stretches() == [], False)


class OperatorsTest(unittest.TestCase):
    def test_all_small_sets(self):
        for (one, left), (other, right) in itertools.product(list(all_sets()), repeat=2):
            self.assertEqual(plain(one & other), left & right)
            self.assertEqual(plain(one | other), left | right)
            self.assertEqual(plain(one - other), left - right)
            self.assertIs(one <= other, left <= right)
            self.assertIs(one == other, left == right)

    def test_results_have_the_fewest_pairs(self):
        self.assertEqual((Stretches((0, 4)) | Stretches((5, 9))).pairs(), [(0, 9)])
        self.assertEqual((Stretches((0, 4), (6, 9)) & Stretches((3, 7))).pairs(), [(3, 4), (6, 7)])
        self.assertEqual((Stretches.everything() - Stretches((4, 6))).pairs(), [(0, 3), (7, None)])
        self.assertEqual((Stretches((3, None)) & Stretches((5, None))).pairs(), [(5, None)])
        self.assertEqual((Stretches((3, None)) - Stretches((5, None))).pairs(), [(3, 4)])
        self.assertEqual((Stretches.everything() - Stretches.everything()).pairs(), [])

    def test_great_counts(self):
        one, other = Stretches((0, GREAT)), Stretches((GREAT // 2, None))
        self.assertEqual((one & other).pairs(), [(GREAT // 2, GREAT)])
        self.assertEqual((one | other).pairs(), [(0, None)])
        self.assertEqual((one - other).pairs(), [(0, GREAT // 2 - 1)])
        self.assertEqual((other - one).pairs(), [(GREAT + 1, None)])
        self.assertIs(Stretches((GREAT, GREAT)) <= one, True)
        self.assertIs(one <= other, False)

    def test_many_pairs(self):
        many = Stretches(*[(3 * k, 3 * k + 1) for k in range(3000)])
        odd = Stretches(*[(2 * k + 1, 2 * k + 1) for k in range(4500)])
        self.assertEqual((many & odd).count(), 3000)
        self.assertEqual((many - odd).count(), 3000)
        self.assertEqual((many | odd).count(), 7500)

    def test_any_other_object_behind(self):
        some = Stretches((1, 4))
        for value in odd_objects() + [3, -1, (1, 4), Moment(3)]:
            for sign in (operator.and_, operator.or_, operator.sub, operator.le):
                with self.subTest(value=repr(value), sign=sign.__name__):
                    self.assertIsNone(caught(NoStretch, sign, some, value).index)

    def test_sum_with_a_count(self):
        some = Stretches((0, 4), (9, None))
        self.assertEqual((some + 3).pairs(), [(3, 7), (12, None)])
        self.assertEqual((3 + some).pairs(), [(3, 7), (12, None)])
        self.assertEqual((some + 0), some)
        self.assertEqual((GREAT + some).pairs(), [(GREAT, GREAT + 4), (GREAT + 9, None)])
        self.assertEqual((Stretches() + 3).pairs(), [])

    def test_sum_with_any_other_object(self):
        some = Stretches((1, 4))
        for value in odd_objects() + [-1, Stretches((1, 1)), Moment(3)]:
            with self.subTest(value=repr(value)):
                self.assertIsNone(caught(NoStretch, operator.add, some, value).index)
        for value in odd_objects() + [-1]:
            with self.subTest(ahead=repr(value)):
                self.assertIsNone(caught(NoStretch, operator.add, value, some).index)

    def test_spread(self):
        rows = [
            (Stretches((0, 0)), 2, 5, [(2, 5)]),
            (Stretches((1, 3), (10, 12)), 0, 0, [(1, 3), (10, 12)]),
            (Stretches((1, 3), (10, 12)), 2, 7, [(3, 10), (12, 19)]),
            (Stretches((1, 3), (10, 12)), 2, 8, [(3, 20)]),
            (Stretches((1, 3), (10, 12)), 2, 6, [(3, 9), (12, 18)]),
            (Stretches((1, 3), (10, 12)), 4, None, [(5, None)]),
            (Stretches((1, 3), (10, None)), 1, 2, [(2, 5), (11, None)]),
            (Stretches(), 0, None, []),
            (Stretches((0, GREAT)), GREAT, 2 * GREAT, [(GREAT, 3 * GREAT)]),
        ]
        for some, least, most, found in rows:
            with self.subTest(pairs=some.pairs(), least=least, most=most):
                self.assertEqual(some.spread(least, most).pairs(), found)
        self.assertEqual(Stretches((1, 1)).spread(most=4, least=3), Stretches((4, 5)))

    def test_spread_of_all_small_sets(self):
        for some, numbers in all_sets():
            for least, most in ((0, 0), (0, 1), (1, 1), (2, 4)):
                found = {n + k for n in numbers for k in range(least, most + 1) if n + k < BOUND}
                self.assertEqual(plain(some.spread(least, most)), found)

    def test_spread_by_no_pair(self):
        for some in (Stretches((1, 4)), Stretches()):
            for least, most in ((2, 1), (-1, 3), (None, 3), (None, None), (True, 3), (0, True), ("1", 3), (1, "3"),
                                (Odd(), 3), (1, Odd())):
                with self.subTest(least=least, most=most):
                    self.assertIsNone(caught(NoStretch, some.spread, least, most).index)

    def test_below(self):
        some = Stretches((0, 3), (6, None))
        self.assertEqual([some.below(n).pairs() for n in (0, 1, 4, 6, 7)],
                         [[], [(0, 0)], [(0, 3)], [(0, 3)], [(0, 3), (6, 6)]])
        self.assertEqual(some.below(GREAT).pairs(), [(0, 3), (6, GREAT - 1)])
        self.assertEqual(Stretches().below(5), Stretches())
        self.assertEqual(some.below(bound=2), Stretches((0, 1)))

    def test_sets_stay_as_they_are(self):
        one, other = Stretches((1, 4), (8, None)), Stretches((3, 9))
        for found in (one & other, one | other, one - other, one <= other, one + 3, 3 + one, one.spread(1, 2),
                      one.below(3), list(itertools.islice(one.numbers(), 3))):
            self.assertIsNotNone(found)
            self.assertEqual(one.pairs(), [(1, 4), (8, None)])
            self.assertEqual(other.pairs(), [(3, 9)])
        one += 2
        self.assertEqual(one.pairs(), [(3, 6), (10, None)])


if __name__ == "__main__":
    unittest.main()
