import unittest

from agedfiles.deeds import MARKS, backs, is_deed, is_looks, makes
from agedfiles.errors import NoDeed
from tests.helpers import Agreeable, Odd, caught, odd_objects

BACK = 10 ** 9
# Each deed, its backs in order, and whether it makes a file.
DEEDS = [
    (("make",), [("read", 0), ("written", 0), ("changed", 0)], True),
    (("read",), [], False),
    (("write",), [("written", 0), ("changed", 0)], False),
    (("rename",), [("changed", 0)], False),
    (("touch",), [("read", 0), ("written", 0), ("changed", 0)], False),
    (("unpack", 60), [("read", 0), ("written", 60), ("changed", 0)], True),
    (("unpack", 1), [("read", 0), ("written", 1), ("changed", 0)], True),
    (("unpack", BACK), [("read", 0), ("written", BACK), ("changed", 0)], True),
    (("setback", 60), [("read", 60), ("written", 60), ("changed", 0)], False),
    (("setback", 1), [("read", 1), ("written", 1), ("changed", 0)], False),
    (("setback", BACK), [("read", BACK), ("written", BACK), ("changed", 0)], False),
]
WRONG_DEEDS = odd_objects() + [
    "make", ["make"], ["unpack", 60], ("make", 1), ("read", 3), ("write", None), ("rename", 0), ("touch", 5),
    ("unpack",), ("setback",), ("unpack", 60, 1), ("setback", 60, 60), ("make", "make"), ("MAKE",), ("delete",), ("",),
    ("unpack", 0), ("unpack", -1), ("unpack", BACK + 1), ("unpack", True), ("unpack", None), ("unpack", "60"),
    ("setback", 0), ("setback", BACK + 1), ("setback", True), ("setback", [60]), (("make",),), (["make"],), (None,),
    (b"make",), (Odd(),), (Odd(), 60), ("unpack", Odd()), (Agreeable(),), (Agreeable(), 60), ("unpack", Agreeable()),
]


class DeedsTest(unittest.TestCase):
    def test_example_of_the_document(self):
        found = [backs(("unpack", 60)), makes(("unpack", 60)), is_deed(("read", 3))]
        self.assertEqual(found, [{"read": 0, "written": 60, "changed": 0}, True, False])

    def test_marks(self):
        self.assertEqual(MARKS, ("read", "written", "changed"))

    def test_deeds(self):
        for deed, found, made in DEEDS:
            with self.subTest(deed=deed):
                self.assertIs(is_deed(deed), True)
                self.assertIs(makes(deed), made)
                self.assertEqual(list(backs(deed).items()), found)

    def test_objects_that_are_no_deeds(self):
        for value in WRONG_DEEDS:
            with self.subTest(value=repr(value)):
                self.assertIs(is_deed(value), False)
                self.assertIs(makes(value), False)
                self.assertIs(caught(NoDeed, backs, value).value, value)

    def test_a_new_dict_each_time(self):
        for deed, found, made in DEEDS:
            first = backs(deed)
            first["read"] = 7
            first["other"] = 8
            self.assertEqual(list(backs(deed).items()), found)

    def test_names_of_arguments(self):
        self.assertEqual([is_deed(value=("make",)), makes(value=("read",)), backs(deed=("read",))], [True, False, {}])


class LooksTest(unittest.TestCase):
    def test_choices_of_marks(self):
        for value in (("read",), ("written",), ("changed",), ("read", "written"), ("read", "changed"),
                      ("written", "changed"), MARKS):
            self.assertIs(is_looks(value), True)

    def test_other_objects(self):
        for value in wrong_looks():
            with self.subTest(value=repr(value)):
                self.assertIs(is_looks(value), False)


def wrong_looks():
    return odd_objects() + ["read", ["read"], list(MARKS), ("read", "read"), ("written", "read"), ("changed", "written"),
                            ("read", "changed", "written"), MARKS + ("read",), ("read", "other"), ("other",), ("",),
                            ("read", None), (None,), (Odd(),), ("read", Odd()), (Agreeable(),), ("read", Agreeable()),
                            (["read"],), (("read",),), {"read": 1}, (b"read",)]


if __name__ == "__main__":
    unittest.main()
