import unittest

from agedfiles import errors

WITH_VALUE = ["NoMoment", "NoRule", "NoFile", "NoDeed", "NoMark", "NoGrain", "NoRow", "NoName", "NoText", "NoCommand"]
WITH_INDEX = ["NoStretch", "NoChange"]
OTHERS = ["NoWay", "NoBook", "NoEnd", "Nested", "TooLong"]


class ErrorsTest(unittest.TestCase):
    def test_base_is_a_value_error(self):
        self.assertEqual(errors.AgeError.__bases__, (ValueError,))

    def test_each_stands_straight_under_the_base(self):
        for name in WITH_VALUE + WITH_INDEX + OTHERS:
            with self.subTest(name):
                self.assertEqual(getattr(errors, name).__bases__, (errors.AgeError,))

    def test_each_is_defined_in_the_file(self):
        for name in ["AgeError"] + WITH_VALUE + WITH_INDEX + OTHERS:
            with self.subTest(name):
                self.assertEqual(getattr(errors, name).__module__, "agedfiles.errors")

    def test_there_are_no_others(self):
        found = [name for name, thing in vars(errors).items() if isinstance(thing, type)]
        self.assertEqual(sorted(found), sorted(["AgeError"] + WITH_VALUE + WITH_INDEX + OTHERS))

    def test_value(self):
        for name in WITH_VALUE:
            with self.subTest(name):
                thing = object()
                self.assertIs(getattr(errors, name)(thing).value, thing)

    def test_index(self):
        for name in WITH_INDEX:
            with self.subTest(name):
                self.assertEqual(getattr(errors, name)(3).index, 3)
                self.assertIsNone(getattr(errors, name)(None).index)

    def test_way(self):
        error = errors.NoWay("arrow", 4)
        self.assertEqual((error.kind, error.index), ("arrow", 4))

    def test_book_and_limit(self):
        self.assertEqual(errors.NoBook("looks").part, "looks")
        self.assertEqual(errors.TooLong(60).limit, 60)

    def test_those_without_attributes(self):
        for error in (errors.NoEnd, errors.Nested):
            with self.assertRaises(errors.AgeError):
                raise error()


if __name__ == "__main__":
    unittest.main()
