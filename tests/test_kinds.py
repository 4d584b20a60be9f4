import unittest

from agedfiles import kinds
from tests.helpers import odd_objects


class KindsTest(unittest.TestCase):
    def test_odd_objects_are_none(self):
        for value in odd_objects():
            with self.subTest(value=repr(value)):
                self.assertIs(kinds.is_whole(value), False)
                self.assertIs(kinds.is_count(value), False)
                self.assertIs(kinds.is_time(value), False)
                self.assertIs(kinds.is_moment(value), False)

    def test_borders(self):
        self.assertEqual([kinds.is_whole(n) for n in (-1, 0, 10 ** 80)], [True, True, True])
        self.assertEqual([kinds.is_count(n) for n in (-1, 0, 1, 10 ** 80)], [False, True, True, True])
        self.assertEqual([kinds.is_time(n) for n in (0, 1, 10 ** 9, 10 ** 9 + 1)], [False, True, True, False])
        ends = (-10 ** 30 - 1, -10 ** 30, 0, 10 ** 30, 10 ** 30 + 1)
        self.assertEqual([kinds.is_moment(n) for n in ends], [False, True, True, True, False])

    def test_lists(self):
        self.assertEqual([kinds.is_list(x) for x in ([], (), {}, "ab", None)], [True, True, False, False, False])


if __name__ == "__main__":
    unittest.main()
