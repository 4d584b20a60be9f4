import operator
import unittest

from agedfiles.errors import NoGrain, NoMoment
from agedfiles.moments import Moment, seconds_of
from agedfiles.stretches import Stretches
from tests.helpers import Agreeable, caught, odd_objects

MOST = 10 ** 30
ORDERS = [operator.lt, operator.le, operator.gt, operator.ge]


def seen(moment, grain):
    return moment.seen(grain).seconds


class MomentTest(unittest.TestCase):
    def test_example_of_the_document(self):
        moment = Moment(100)
        found = [(moment + 5).seconds, (5 + moment) - moment, moment < Moment(99), moment.seen(30).seconds]
        self.assertEqual(found, [105, 5, False, 90])

    def test_seconds(self):
        for seconds in (0, 5, -7, MOST, -MOST):
            self.assertEqual(Moment(seconds).seconds, seconds)

    def test_made_of_nothing_but_a_moment(self):
        for value in odd_objects() + [MOST + 1, -MOST - 1, Moment(3), Stretches()]:
            with self.subTest(value=repr(value)):
                self.assertIs(caught(NoMoment, Moment, value).value, value)

    def test_seconds_cannot_be_set(self):
        moment = Moment(3)
        with self.assertRaises(AttributeError):
            moment.seconds = 4
        self.assertEqual(moment.seconds, 3)

    def test_sums_on_either_side(self):
        moment = Moment(-3)
        for k in (0, 5, -5, 10 ** 20):
            self.assertEqual((moment + k), Moment(k - 3))
            self.assertEqual((k + moment), Moment(k - 3))
            self.assertIsInstance(k + moment, Moment)
        self.assertEqual(moment.seconds, -3)

    def test_difference_with_an_integer(self):
        moment = Moment(10)
        self.assertEqual(moment - 4, Moment(6))
        self.assertEqual(moment - -4, Moment(14))
        self.assertEqual(moment - 40, Moment(-30))
        self.assertEqual(moment.seconds, 10)

    def test_difference_with_a_moment(self):
        self.assertEqual(Moment(10) - Moment(4), 6)
        self.assertEqual(Moment(4) - Moment(10), -6)
        self.assertIs((Moment(4) - Moment(10)).__class__, int)
        self.assertEqual(Moment(MOST) - Moment(-MOST), 2 * MOST)

    def test_sum_with_any_other_object(self):
        for value in odd_objects() + [Moment(3), Stretches((1, 2))]:
            with self.subTest(value=repr(value)):
                self.assertIs(caught(NoMoment, operator.add, Moment(10), value).value, value)

    def test_difference_with_any_other_object(self):
        for value in odd_objects() + [Stretches((1, 2))]:
            with self.subTest(value=repr(value)):
                self.assertIs(caught(NoMoment, operator.sub, Moment(10), value).value, value)

    def test_any_other_object_ahead_of_a_sum(self):
        for value in odd_objects():
            with self.subTest(value=repr(value)):
                self.assertIs(caught(NoMoment, operator.add, value, Moment(10)).value, value)

    def test_any_object_ahead_of_a_minus(self):
        for value in odd_objects() + [7, -7, MOST + 1]:
            with self.subTest(value=repr(value)):
                self.assertIs(caught(NoMoment, operator.sub, value, Moment(10)).value, value)

    def test_sums_beyond_the_ends(self):
        self.assertEqual(caught(NoMoment, operator.add, Moment(MOST), 1).value, MOST + 1)
        self.assertEqual(caught(NoMoment, operator.add, 2, Moment(MOST)).value, MOST + 2)
        self.assertEqual(caught(NoMoment, operator.add, Moment(-MOST), -1).value, -MOST - 1)
        self.assertEqual(caught(NoMoment, operator.sub, Moment(-MOST), 1).value, -MOST - 1)
        self.assertEqual(caught(NoMoment, operator.sub, Moment(MOST), -3).value, MOST + 3)
        self.assertEqual((Moment(MOST - 1) + 1).seconds, MOST)
        self.assertEqual((Moment(1 - MOST) - 1).seconds, -MOST)
        self.assertEqual((Moment(MOST) + -2 * MOST).seconds, -MOST)

    def test_comparisons(self):
        for one in (-2, -1, 0, 7):
            for other in (-2, -1, 0, 7):
                for order in ORDERS:
                    self.assertIs(order(Moment(one), Moment(other)), order(one, other))

    def test_comparison_with_any_other_object(self):
        for value in odd_objects() + [10, 11, Stretches((1, 2))]:
            for order in ORDERS:
                with self.subTest(value=repr(value), order=order.__name__):
                    self.assertIs(caught(NoMoment, order, Moment(10), value).value, value)

    def test_equality(self):
        self.assertIs(Moment(5) == Moment(5), True)
        self.assertIs(Moment(5) != Moment(5), False)
        self.assertIs(Moment(5) == Moment(6), False)
        self.assertIs(Moment(5) != Moment(6), True)
        self.assertIs(Moment(10 ** 29) == Moment(10 ** 29), True)

    def test_never_equal_to_other_classes(self):
        class Alike:
            number = 5
            seconds = 5
        for value in (5, "5", None, (5,), Alike(), Agreeable(), Stretches((5, 5))):
            self.assertIs(Moment(5) == value, False)

    def test_seen(self):
        self.assertEqual([seen(Moment(n), 30) for n in (0, 29, 30, 59, 60, 100)], [0, 0, 30, 30, 60, 90])

    def test_seen_at_the_least_and_greatest_grain(self):
        for seconds in (-10 ** 25 - 7, -5, 0, 5, 10 ** 25 + 7):
            self.assertEqual(seen(Moment(seconds), 1), seconds)
        self.assertEqual(seen(Moment(10 ** 6), 10 ** 6), 10 ** 6)
        self.assertEqual(seen(Moment(2 * 10 ** 6 - 1), 10 ** 6), 10 ** 6)
        self.assertEqual(seen(Moment(-1), 10 ** 6), -10 ** 6)

    def test_seen_below_zero_rounds_down(self):
        self.assertEqual([seen(Moment(n), 30) for n in (-1, -29, -30, -31, -60)], [-30, -30, -30, -60, -60])

    def test_seen_is_a_moment_and_changes_nothing(self):
        moment = Moment(100)
        self.assertIsInstance(moment.seen(7), Moment)
        self.assertEqual(moment.seconds, 100)

    def test_no_grain(self):
        for value in odd_objects() + [0, -1, 10 ** 6 + 1, Moment(3)]:
            with self.subTest(value=repr(value)):
                self.assertIs(caught(NoGrain, Moment(7).seen, value).value, value)

    def test_names_of_arguments(self):
        self.assertEqual(Moment(seconds=7).seen(grain=2), Moment(6))


class SecondsTest(unittest.TestCase):
    def test_moments_of_both_kinds(self):
        self.assertEqual([seconds_of(-3), seconds_of(Moment(-3)), seconds_of(MOST)], [-3, -3, MOST])

    def test_other_objects(self):
        for value in odd_objects() + [MOST + 1, -MOST - 1]:
            self.assertIs(caught(NoMoment, seconds_of, value).value, value)


if __name__ == "__main__":
    unittest.main()
