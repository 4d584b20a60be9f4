import unittest

from agedfiles.deeds import MARKS
from agedfiles.errors import NoDeed, NoFile, NoMark, NoMoment, NoRule
from agedfiles.files import File
from agedfiles.moments import Moment
from agedfiles.rules import Rule
from tests.helpers import Agreeable, caught, odd_objects
from tests.test_deeds import WRONG_DEEDS, wrong_looks

FAR = 10 ** 30


def made(rule=None, at=0):
    return File(rule or Rule.always(), ("make",), at)


def told(file):
    """All that a file tells of itself."""
    return list(file.marks().items()), file.last, file.held


class Boom(Exception):
    pass


class MakeTest(unittest.TestCase):
    def test_example_of_the_document(self):
        file = File(Rule.seldom(10), ("make",), 0)
        found = [file.do(("read",), 7), file.do(("read",), 14), file.do(("read",), 20), file.marks()]
        self.assertEqual(found, [["read"], [], ["read"], {"read": 20, "written": 0, "changed": 0}])

    def test_made_by_either_deed(self):
        self.assertEqual(told(made(at=-7)), ([("read", -7), ("written", -7), ("changed", -7)], -7, False))
        file = File(Rule.never(), ("unpack", 60), Moment(5))
        self.assertEqual(told(file), ([("read", 5), ("written", -55), ("changed", 5)], 5, False))
        self.assertIs(file.last.__class__, int)
        self.assertIs(file.marks()["written"].__class__, int)

    def test_no_rule(self):
        for value in odd_objects() + ["always", 5, made()]:
            with self.subTest(value=repr(value)):
                self.assertIs(caught(NoRule, File, value, ("make",), 0).value, value)
                self.assertIs(caught(NoRule, File, value, None, None).value, value)

    def test_no_deed(self):
        for value in WRONG_DEEDS + [("read",), ("write",), ("rename",), ("touch",), ("setback", 5)]:
            with self.subTest(value=repr(value)):
                self.assertIs(caught(NoDeed, File, Rule.never(), value, 0).value, value)
                self.assertIs(caught(NoDeed, File, Rule.never(), value, None).value, value)

    def test_no_moment(self):
        for value in odd_objects() + [FAR + 1, -FAR - 1, made()]:
            with self.subTest(value=repr(value)):
                self.assertIs(caught(NoMoment, File, Rule.never(), ("make",), value).value, value)

    def test_names_of_arguments(self):
        self.assertEqual(File(rule=Rule.always(), deed=("make",), at=0), made())


class MarksTest(unittest.TestCase):
    def test_single_marks(self):
        file = File(Rule.never(), ("unpack", 60), 5)
        for mark, seconds in (("read", 5), ("written", -55), ("changed", 5)):
            self.assertIsInstance(file[mark], Moment)
            self.assertEqual(file[mark].seconds, seconds)

    def test_no_mark(self):
        file = made()
        for value in odd_objects() + ["Read", "", "read ", ("read",), ["read"], 0, -1, b"read", "other"]:
            with self.subTest(value=repr(value)):
                self.assertIs(caught(NoMark, lambda at: file[at], value).value, value)

    def test_marks_are_a_new_dict(self):
        file = made()
        file.marks()["read"] = 77
        file.marks().clear()
        self.assertEqual(file.marks(), {"read": 0, "written": 0, "changed": 0})

    def test_marks_stay_in_order(self):
        file = made()
        for at, deed in enumerate([("rename",), ("write",), ("read",), ("setback", 9), ("touch",), ("unpack", 2)]):
            file.do(deed, at + 1)
            self.assertEqual(tuple(file.marks()), MARKS)

    def test_latest(self):
        file = File(Rule.always(), ("unpack", 60), 0)
        file.do(("write",), 10)
        file.do(("read",), 20)
        file.do(("rename",), 30)
        self.assertEqual(file.marks(), {"read": 20, "written": 10, "changed": 30})
        rows = [(("read",), 20), (("written",), 10), (("changed",), 30), (("read", "written"), 20),
                (("read", "changed"), 30), (("written", "changed"), 30), (MARKS, 30)]
        for looks, found in rows:
            self.assertEqual(file.latest(looks), found)
            self.assertIs(file.latest(looks).__class__, int)
        self.assertEqual(File(Rule.always(), ("unpack", 60), -5).latest(looks=("read", "written")), -5)
        self.assertEqual(File(Rule.always(), ("unpack", 60), -5).latest(("written",)), -65)

    def test_latest_of_no_choice_of_marks(self):
        for value in wrong_looks():
            with self.subTest(value=repr(value)):
                self.assertIs(caught(NoMark, made().latest, value).value, value)


class DoTest(unittest.TestCase):
    def test_each_deed_at_a_new_file(self):
        rows = [
            (("make",), ["read", "written", "changed"], [100, 100, 100]),
            (("read",), ["read"], [100, 0, 0]),
            (("write",), ["written", "changed"], [0, 100, 100]),
            (("rename",), ["changed"], [0, 0, 100]),
            (("touch",), ["read", "written", "changed"], [100, 100, 100]),
            (("unpack", 30), ["read", "written", "changed"], [100, 70, 100]),
            (("setback", 30), ["read", "written", "changed"], [70, 70, 100]),
            (("setback", 300), ["read", "written", "changed"], [-200, -200, 100]),
        ]
        for deed, found, marks in rows:
            with self.subTest(deed=deed):
                file = made()
                self.assertEqual(file.do(deed, 100), found)
                self.assertEqual(list(file.marks().values()), marks)
                self.assertEqual(file.last, 100)

    def test_deeds_in_a_row(self):
        file = File(Rule.seldom(10), ("unpack", 60), 0)
        rows = [
            (("read",), 5, ["read"], [5, -60, 0]),
            (("read",), 14, [], [5, -60, 0]),
            (("read",), 15, ["read"], [15, -60, 0]),
            (("rename",), 16, ["changed"], [15, -60, 16]),
            (("read",), 17, ["read"], [17, -60, 16]),
            (("setback", 7), 18, ["read", "written", "changed"], [11, 11, 18]),
            (("read",), 19, ["read"], [19, 11, 18]),
            (("write",), 20, ["written", "changed"], [19, 20, 20]),
            (("touch",), 21, ["read", "written", "changed"], [21, 21, 21]),
            (("read",), 22, ["read"], [22, 21, 21]),
            (("read",), 31, [], [22, 21, 21]),
            (("make",), 32, ["read", "written", "changed"], [32, 32, 32]),
        ]
        for deed, at, found, marks in rows:
            with self.subTest(at=at):
                self.assertEqual(file.do(deed, at), found)
                self.assertEqual(list(file.marks().values()), marks)
                self.assertEqual(file.last, at)

    def test_reads_by_each_rule(self):
        for rule, found in ((Rule.always(), ["read"]), (Rule.never(), []), (Rule.seldom(1), ["read"])):
            file = made(rule)
            for at in (1, 2, 9):
                self.assertEqual(file.do(("read",), at), found)
                self.assertEqual(file.marks()["read"], at if found else 0)
                self.assertEqual(file.last, at)

    def test_a_moment_serves_as_its_integer(self):
        file = made()
        self.assertEqual(file.do(deed=("write",), at=Moment(4)), ["written", "changed"])
        self.assertEqual(told(file), ([("read", 0), ("written", 4), ("changed", 4)], 4, False))
        self.assertIs(file.last.__class__, int)

    def test_returned_list_is_new(self):
        file = made()
        file.do(("write",), 1).append("read")
        self.assertEqual(file.do(("write",), 2), ["written", "changed"])

    def test_no_deed(self):
        file = made()
        file.held = True
        ahead = told(file)
        for value in WRONG_DEEDS:
            for at in (5, None, 0):
                with self.subTest(value=repr(value), at=at):
                    self.assertIs(caught(NoDeed, file.do, value, at).value, value)
                    self.assertEqual(told(file), ahead)

    def test_no_moment(self):
        for deed in (("make",), ("read",), ("setback", 5)):
            file = made(at=10)
            file.held = True
            ahead = told(file)
            for value in odd_objects() + [10, 9, -5, Moment(10), Moment(3), FAR + 1, -FAR - 1]:
                with self.subTest(deed=deed, value=repr(value)):
                    self.assertIs(caught(NoMoment, file.do, deed, value).value, value)
                    self.assertEqual(told(file), ahead)
            file.do(deed, 11)

    def test_a_read_that_sets_nothing_is_the_last_deed(self):
        file = made(Rule.never())
        file.do(("read",), 7)
        self.assertEqual(told(file), ([("read", 0), ("written", 0), ("changed", 0)], 7, False))
        self.assertEqual(caught(NoMoment, file.do, ("read",), 7).value, 7)

    def test_last_cannot_be_set(self):
        file = made()
        with self.assertRaises(AttributeError):
            file.last = 5
        self.assertEqual(file.last, 0)


class HeldTest(unittest.TestCase):
    def test_setter(self):
        file = made()
        self.assertIs(file.held, False)
        for value in (True, True, False, True):
            file.held = value
            self.assertIs(file.held, value)

    def test_setter_takes_truths_only(self):
        for ahead in (True, False):
            file = made()
            file.held = ahead
            for value in [value for value in odd_objects() if not isinstance(value, bool)] + [0, 1, "yes", file]:
                with self.subTest(value=repr(value)):
                    self.assertIs(caught(NoFile, lambda held: setattr(file, "held", held), value).value, value)
                    self.assertIs(file.held, ahead)

    def test_other_deeds_leave_it(self):
        file = made()
        file.held = True
        for at, deed in enumerate([("read",), ("write",), ("rename",), ("touch",), ("setback", 5)]):
            file.do(deed, at + 1)
            self.assertIs(file.held, True)

    def test_a_file_in_its_place_is_not_held(self):
        for deed in (("make",), ("unpack", 5)):
            file = made()
            file.held = True
            file.do(deed, 1)
            self.assertIs(file.held, False)

    def test_block(self):
        file = made()
        block = file.hold()
        self.assertIs(file.held, False)
        with block:
            self.assertIs(file.held, True)
            file.do(("write",), 3)
            self.assertIs(file.held, True)
        self.assertIs(file.held, False)
        self.assertEqual(file.last, 3)

    def test_block_that_an_error_leaves(self):
        file = made()
        with self.assertRaises(Boom):
            with file.hold():
                file.do(("write",), 3)
                raise Boom()
        self.assertEqual(told(file), ([("read", 0), ("written", 3), ("changed", 3)], 3, False))
        with self.assertRaises(NoMoment):
            with file.hold():
                file.do(("write",), 3)
        self.assertIs(file.held, False)

    def test_block_that_a_return_leaves(self):
        file = made()

        def visit():
            with file.hold():
                return file.held
        self.assertEqual([visit(), file.held], [True, False])

    def test_a_deed_that_makes_within(self):
        file = made()
        with file.hold():
            file.do(("make",), 3)
            self.assertIs(file.held, False)
            file.do(("write",), 4)
            self.assertIs(file.held, False)
        self.assertIs(file.held, False)

    def test_blocks_within_blocks(self):
        file = made()
        with file.hold():
            with file.hold():
                self.assertIs(file.held, True)
            self.assertIs(file.held, False)
            with file.hold():
                self.assertIs(file.held, True)
            self.assertIs(file.held, False)
        self.assertIs(file.held, False)

    def test_held_set_within(self):
        file = made()
        with file.hold():
            file.held = False
            self.assertIs(file.held, False)
            file.held = True
            self.assertIs(file.held, True)
        self.assertIs(file.held, False)
        with file.hold():
            file.do(("make",), 3)
            file.held = True
        self.assertIs(file.held, False)

    def test_a_block_ends_what_was_held_ahead_of_it(self):
        file = made()
        file.held = True
        with file.hold():
            self.assertIs(file.held, True)
        self.assertIs(file.held, False)

    def test_blocks_of_two_files(self):
        one, other = made(), made()
        with one.hold():
            with other.hold():
                self.assertEqual([one.held, other.held], [True, True])
            self.assertEqual([one.held, other.held], [True, False])
        self.assertEqual([one.held, other.held], [False, False])

    def test_a_double_has_no_part_in_a_block(self):
        file = made()
        with file.hold():
            other = file.double()
        self.assertEqual([file.held, other.held], [False, True])


class WithinTest(unittest.TestCase):
    def test_visitor(self):
        file = made()
        seen = []

        def visitor(visited):
            seen.append((visited is file, visited.held))
            visited.do(("write",), 5)
            return seen
        self.assertIs(file.within(visitor=visitor), seen)
        self.assertEqual(seen, [(True, True)])
        self.assertEqual(told(file), ([("read", 0), ("written", 5), ("changed", 5)], 5, False))

    def test_visitor_that_raises(self):
        file = made()
        boom = Boom()

        def visitor(visited):
            visited.do(("rename",), 5)
            raise boom
        self.assertIs(caught(Boom, file.within, visitor), boom)
        self.assertEqual(told(file), ([("read", 0), ("written", 0), ("changed", 5)], 5, False))

    def test_visitor_that_makes_or_sets_held(self):
        file = made()
        self.assertEqual(file.within(lambda visited: [visited.do(("make",), 5), visited.held]), [list(MARKS), False])
        self.assertEqual(told(file), ([("read", 5), ("written", 5), ("changed", 5)], 5, False))
        self.assertIsNone(file.within(lambda visited: setattr(visited, "held", True)))
        self.assertIs(file.held, False)

    def test_visitor_within_a_visitor(self):
        file = made()

        def visitor(visited):
            return [visited.within(lambda inner: inner.held), visited.held]
        self.assertEqual(file.within(visitor), [True, False])
        self.assertIs(file.held, False)


class DoubleTest(unittest.TestCase):
    def test_equal_but_of_its_own(self):
        file = File(Rule.seldom(10), ("unpack", 60), -5)
        file.do(("read",), 3)
        file.do(("read",), 4)
        file.held = True
        other = file.double()
        self.assertIsNot(other, file)
        self.assertEqual(other, file)
        self.assertEqual(told(other), told(file))
        ahead = told(file)
        self.assertEqual(other.do(("read",), 12), [])
        self.assertEqual(other.do(("read",), 13), ["read"])
        other.held = False
        self.assertEqual(told(file), ahead)
        file.do(("make",), 50)
        self.assertEqual(other.last, 13)

    def test_equality(self):
        def some(rule=Rule.seldom(10), deed=("make",), at=0, then=(("write",), 5), held=False):
            file = File(rule, deed, at)
            file.do(*then)
            file.held = held
            return file
        self.assertIs(some() == some(), True)
        self.assertIs(some() != some(), False)
        self.assertIs(some(held=True) == some(held=True), True)
        for other in (some(rule=Rule.seldom(11)), some(rule=Rule.always()), some(deed=("unpack", 7), then=(("read",), 5)),
                      some(at=1), some(then=(("write",), 6)), some(then=(("rename",), 5)), some(held=True)):
            self.assertIs(some() == other, False)
            self.assertIs(some() != other, True)

    def test_equality_with_unlike_last_deeds_only(self):
        one, other = made(Rule.never()), made(Rule.never())
        other.do(("read",), 5)
        self.assertEqual(one.marks(), other.marks())
        self.assertIs(one == other, False)
        one.do(("read",), 5)
        self.assertIs(one == other, True)

    def test_equality_by_what_is_not_by_how(self):
        one, other = made(), File(Rule.always(), ("unpack", 60), -3)
        other.do(("touch",), 0)
        self.assertIs(one == other, True)

    def test_never_equal_to_other_classes(self):
        file = made()
        for value in (file.marks(), None, 0, Agreeable(), Rule.always()):
            self.assertIs(file == value, False)

    def test_not_gone_through(self):
        with self.assertRaises(TypeError):
            list(made())


if __name__ == "__main__":
    unittest.main()
