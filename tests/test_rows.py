import itertools
import unittest

from agedfiles.errors import NoEnd, NoMoment, NoRow, NoRule, NoWay
from agedfiles.files import File
from agedfiles.moments import Moment
from agedfiles.rows import file_at, is_row, rows
from agedfiles.rules import Rule
from agedfiles.ways import Way
from tests.helpers import Agreeable, Odd, caught, odd_objects
from tests.model import arrow_at, marks_at, rows_of
from tests.some_ways import MAKE, MIXED, READ, RULES, WAY, WRITE, some_uses

FAR = 10 ** 30
ENDLESS = Way([MAKE, READ, WRITE], [(0, 1, 2, None), (1, 1, 1, 10 ** 9), (1, 2, 1, 3)])


class IsRowTest(unittest.TestCase):
    def test_rows(self):
        for row in (((0, 0),), ((0, -50),), ((0, FAR),), ((0, -FAR),), ((0, 5), (1, 6)), ((0, 5), (1, 12)),
                    ((0, -5), (1, -4), (1, 3), (1, 9))):
            self.assertIs(is_row(WAY, row), True)

    def test_all_rows_of_ways(self):
        for way in (WAY, MIXED):
            for many in range(1, 4):
                for start in (-3, 0, 10 ** 9):
                    for row in rows_of(way, many, start):
                        self.assertIs(is_row(way, row), True)

    def test_all_pairs_of_steps(self):
        for way in (WAY, MIXED):
            found = set(rows_of(way, 2))
            for node, goal in itertools.product(range(-1, 5), range(-1, 5)):
                for moment in range(-2, 10):
                    row = ((node, 0), (goal, moment))
                    self.assertIs(is_row(way, row), row in found, row)

    def test_times_of_arrows_without_a_greatest_time(self):
        for time, found in ((1, False), (2, True), (3, True), (10 ** 9 + 1, True), (10 ** 29, True)):
            self.assertIs(is_row(ENDLESS, ((0, -7), (1, time - 7))), found)
        for time, found in ((10 ** 9, True), (10 ** 9 + 1, False), (0, False)):
            self.assertIs(is_row(ENDLESS, ((0, 0), (1, 2), (1, 2 + time))), found)

    def test_one_wrong_step_among_good_ones(self):
        good = ((0, 0), (1, 7), (1, 8), (1, 15))
        self.assertIs(is_row(WAY, good), True)
        for at in range(4):
            for wrong in ((1, 9 ** 20), (2, good[at][1]), (-1, good[at][1]), [1, good[at][1]], (good[at][0],), good[at] + (0,),
                          (True, good[at][1]), (good[at][0], True), (good[at][0], Moment(good[at][1])), None, 5):
                self.assertIs(is_row(WAY, good[:at] + (wrong,) + good[at + 1:]), False, (at, wrong))

    def test_first_node_that_does_not_make(self):
        self.assertIs(is_row(WAY, ((1, 0),)), False)
        self.assertIs(is_row(WAY, ((1, 0), (1, 1))), False)
        self.assertIs(is_row(MIXED, ((3, 0),)), True)

    def test_files_made_anew(self):
        self.assertIs(is_row(MIXED, ((1, 0), (0, 1), (3, 2), (2, 4), (1, 7))), True)
        self.assertIs(is_row(MIXED, ((1, 0), (3, 2))), False)

    def test_other_objects(self):
        for value in odd_objects() + [((0, 0),) + (5,), [(0, 0)], [(0, 0), (1, 1)], ((0, 0), [1, 1]), ((0,),), ((0, 0, 0),),
                                      (0, 0), ((True, 0),), ((False, 0),), ((0, False),), ((0, None),), ((0, FAR + 1),),
                                      ((0, -FAR - 1),), ((None, 0),), ((Odd(), 0),), ((0, Odd()),), ((Agreeable(), 0),),
                                      ((0, Agreeable()),), (Agreeable(),), (Odd(),), ((0, Moment(0)),), "0", (("make",), 0),
                                      ((("make",), 0),), (((0, 0),),), {(0, 0): 1}, WAY]:
            with self.subTest(value=repr(value)):
                self.assertIs(is_row(WAY, value), False)

    def test_no_way(self):
        for value in odd_objects() + [[MAKE], Rule.always()]:
            error = caught(NoWay, is_row, value, ((0, 0),))
            self.assertEqual(error.kind, "way")
            self.assertIs(error.index, value)

    def test_names_of_arguments(self):
        self.assertIs(is_row(way=WAY, value=((0, 0),)), True)

    def test_long_rows(self):
        row = ((0, 0),) + tuple((1, 5 * k) for k in range(1, 1000))
        self.assertIs(is_row(WAY, row), True)
        self.assertIs(is_row(WAY, row[:-1] + ((1, 4995 + 3),)), False)


class RowsTest(unittest.TestCase):
    def test_in_their_order(self):
        way = Way([READ, MAKE, MAKE], [(1, 0, 2, 3), (0, 0, 4, 4), (2, 0, 1, 1), (0, 1, 5, 6, "anew")])
        self.assertEqual(list(rows(way, 1)), [((1, 0),), ((2, 0),)])
        self.assertEqual(list(rows(way, 2)), [((1, 0), (0, 2)), ((1, 0), (0, 3)), ((2, 0), (0, 1))])
        self.assertEqual(list(rows(way, 3, 10)), [
            ((1, 10), (0, 12), (0, 16)), ((1, 10), (0, 12), (1, 17)), ((1, 10), (0, 12), (1, 18)),
            ((1, 10), (0, 13), (0, 17)), ((1, 10), (0, 13), (1, 18)), ((1, 10), (0, 13), (1, 19)),
            ((2, 10), (0, 11), (0, 15)), ((2, 10), (0, 11), (1, 16)), ((2, 10), (0, 11), (1, 17))])

    def test_against_the_model(self):
        for way, many in ((WAY, 4), (MIXED, 5)):
            for steps in range(1, many + 1):
                for start in (0, -11, 7):
                    self.assertEqual(list(rows(way, steps, start)), rows_of(way, steps, start))
        for way, rule, book in some_uses(40):
            for steps in range(1, 4):
                self.assertEqual(list(rows(way, steps)), rows_of(way, steps))

    def test_up_to_eight_steps(self):
        way = Way([MAKE, READ, WRITE], [(0, 1, 3, 3), (1, 2, 1, 2), (2, 1, 2, 2, "held")])
        for many in range(1, 9):
            found = list(rows(way, many))
            self.assertEqual(found, rows_of(way, many))
            self.assertEqual(len(found), 2 ** ((many - 1) // 2))

    def test_start(self):
        self.assertEqual(list(rows(WAY, 1)), [((0, 0),)])
        self.assertEqual(list(rows(WAY, 1, -5)), [((0, -5),)])
        for moment in (Moment(-5), Moment(10 ** 20)):
            found = list(rows(WAY, 2, moment))
            self.assertEqual(found, rows_of(WAY, 2, moment.seconds))
            self.assertIs(found[0][0][1].__class__, int)
        self.assertEqual(list(rows(way=WAY, many=1, start=3)), [((0, 3),)])

    def test_ways_whose_rows_end(self):
        way = Way([MAKE, READ, WRITE], [(0, 1, 1, 10 ** 9), (1, 2, 1, 10 ** 9)])
        self.assertEqual(next(rows(way, 3)), ((0, 0), (1, 1), (2, 2)))
        for many in range(4, 9):
            self.assertEqual(list(rows(way, many)), [])
        self.assertEqual(list(rows(Way([MAKE], []), 2)), [])

    def test_row_by_row(self):
        way = Way([MAKE, READ], [(0, 1, 5, 10 ** 9), (1, 1, 6, 10 ** 9)])
        found = rows(way, 8)
        self.assertEqual(next(found), ((0, 0), (1, 5), (1, 11), (1, 17), (1, 23), (1, 29), (1, 35), (1, 41)))
        self.assertEqual(next(found)[-1], (1, 42))

    def test_errors_come_when_the_iteration_begins(self):
        for told, error in (((None, 1), NoWay), ((WAY, 0), NoRow), ((WAY, 1, None), NoRow), ((ENDLESS, 1), NoEnd)):
            found = rows(*told)
            caught(error, next, found)

    def test_errors_in_their_order(self):
        for value in odd_objects() + [[MAKE], 5]:
            for found in (rows(value, 1), rows(value, None, None)):
                error = caught(NoWay, next, found)
                self.assertEqual(error.kind, "way")
                self.assertIs(error.index, value)
        for value in odd_objects() + [0, 9, -1, FAR, Moment(1)]:
            for found in (rows(WAY, value), rows(ENDLESS, value, None)):
                self.assertIs(caught(NoRow, next, found).value, value)
        for value in odd_objects() + [FAR + 1, -FAR - 1, WAY]:
            for way in (WAY, ENDLESS):
                self.assertIs(caught(NoRow, next, rows(way, 3, value)).value, value)

    def test_no_end(self):
        for many in range(1, 9):
            caught(NoEnd, next, rows(ENDLESS, many))
        far = Way([MAKE, READ, MAKE], [(0, 1, 1, 1), (1, 1, 3, None)])
        caught(NoEnd, next, rows(far, 1))
        anew = Way([MAKE, READ], [(0, 1, 1, 1), (1, 0, 3, None, "anew")])
        caught(NoEnd, next, rows(anew, 2))


class FileAtTest(unittest.TestCase):
    def compare(self, way, rule, row, at):
        file = file_at(way, rule, row, at)
        arrow = arrow_at(way, row, at)
        self.assertIsInstance(file, File)
        self.assertEqual(file.marks(), marks_at(way, rule, row, at))
        self.assertEqual(file.last, max(moment for node, moment in row if moment <= at))
        self.assertIs(file.held, arrow is not None and arrow[4] == "held")

    def test_at_all_moments_of_rows(self):
        for rule in RULES:
            for row in rows_of(MIXED, 4, -2):
                for at in range(-2, row[-1][1] + 4):
                    self.compare(MIXED, rule, row, at)

    def test_rows_of_some_ways(self):
        for way, rule, book in some_uses(30, seed=2):
            for row in rows_of(way, 3)[:50]:
                for at in range(row[0][1], row[-1][1] + 2):
                    self.compare(way, rule, row, at)

    def test_held_behind_the_last_step(self):
        way = Way([MAKE, READ], [(0, 1, 2, 2, "held"), (1, 1, 2, 2, "held")])
        row = ((0, 0), (1, 2), (1, 4))
        self.assertEqual([file_at(way, Rule.always(), row, at).held for at in range(6)],
                         [True, True, True, True, False, False])

    def test_a_file_made_anew(self):
        way = Way([MAKE, READ], [(0, 1, 2, 2, "held"), (1, 0, 3, 3, "anew")])
        row = ((0, 0), (1, 2), (0, 5), (1, 7))
        self.assertEqual([file_at(way, Rule.always(), row, at).held for at in range(8)],
                         [True, True, False, False, False, True, True, False])
        self.assertEqual(file_at(way, Rule.always(), row, 4).marks(), {"read": 2, "written": 0, "changed": 0})
        self.assertEqual(file_at(way, Rule.always(), row, 5).marks(), {"read": 5, "written": 5, "changed": 5})

    def test_moments(self):
        row = ((0, 0), (1, 5))
        for at in (5, 6, 10 ** 20, Moment(5), Moment(77)):
            file = file_at(WAY, Rule.always(), row, at)
            self.assertEqual((file.marks()["read"], file.last), (5, 5))
        self.assertEqual(file_at(way=WAY, rule=Rule.never(), row=row, at=Moment(4)).last, 0)

    def test_equal_files(self):
        file = File(Rule.seldom(3), MAKE, 0)
        file.do(READ, 5)
        self.assertEqual(file_at(WAY, Rule.seldom(3), ((0, 0), (1, 5), (1, 9)), 8), file)
        self.assertNotEqual(file_at(WAY, Rule.seldom(4), ((0, 0), (1, 5), (1, 9)), 8), file)

    def test_errors_in_their_order(self):
        row = ((0, 3), (1, 5))
        for value in odd_objects() + [[MAKE], Rule.always()]:
            error = caught(NoWay, file_at, value, None, None, None)
            self.assertEqual(error.kind, "way")
            self.assertIs(error.index, value)
        for value in odd_objects() + ["always", WAY]:
            self.assertIs(caught(NoRule, file_at, WAY, value, None, None).value, value)
        for value in odd_objects() + [list(row), ((1, 0),), ((0, 3), (1, 11)), ((0, 3), (1, 3)), ((0, 3), (0, 5))]:
            self.assertIs(caught(NoRow, file_at, WAY, Rule.never(), value, None).value, value)
        for value in odd_objects() + [2, -FAR, Moment(2), FAR + 1]:
            self.assertIs(caught(NoMoment, file_at, WAY, Rule.never(), row, value).value, value)
        self.assertEqual(file_at(WAY, Rule.never(), row, 3).last, 3)


if __name__ == "__main__":
    unittest.main()
