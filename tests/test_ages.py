import itertools
import time
import unittest

from agedfiles.ages import greatest_age, least_age
from agedfiles.errors import NoMark, NoRule, NoWay
from agedfiles.rules import Rule
from agedfiles.ways import Way
from tests.helpers import caught, odd_objects
from tests.model import CHOICES, MARKS, latest_age, lives_of, marks_at, states_of
from tests.some_ways import MAKE, READ, RENAME, RULES, TOUCH, WAY, WRITE, great_way, some_uses
from tests.test_deeds import wrong_looks

ALWAYS, NEVER = Rule.always(), Rule.never()
CAP = 50
FAR = 10 ** 9


def told(way, rule, looks):
    return [(least_age(way, rule, looks, node), greatest_age(way, rule, looks, node)) for node in range(len(way))]


def by_states(way, rule, looks, states):
    """The same by all states of a way whose greatest ages, if there are any, are less than the cap."""
    found = [[latest_age(ages, looks) for at, ages in states if at == node] for node in range(len(way))]
    return [(min(ages), max(ages) if max(ages) < CAP else None) for ages in found]


class AllLivesTest(unittest.TestCase):
    def test_against_all_states(self):
        nones = 0
        for way, rule, book in some_uses(25, ends=True, seed=10) + some_uses(25, ends=False, seed=11):
            for rule in RULES:
                states = states_of(way, rule, CAP)
                for looks in CHOICES:
                    found = told(way, rule, looks)
                    self.assertEqual(found, by_states(way, rule, looks, states), (way.nodes(), way.arrows(), rule.word, looks))
                    nones += found.count((found[0][0], None))
        self.assertGreater(nones, 50)

    def test_against_lives_of_some_steps(self):
        for way, rule, book in some_uses(30, seed=12, longest=3):
            for rule in RULES:
                ages = {}
                for row in [row for many in range(1, 6) for row in lives_of(way, many, 5)]:
                    node, moment = row[-1]
                    marks = marks_at(way, rule, row, moment)
                    for looks in CHOICES:
                        ages.setdefault((node, looks), set()).add(moment - max(marks[mark] for mark in looks))
                for node, looks in ages:
                    greatest = greatest_age(way, rule, looks, node)
                    self.assertLessEqual(least_age(way, rule, looks, node), min(ages[node, looks]))
                    self.assertTrue(greatest is None or greatest >= max(ages[node, looks]))


class AgesTest(unittest.TestCase):
    def ages(self, way, rule, node):
        return {looks: (least_age(way, rule, looks, node), greatest_age(way, rule, looks, node)) for looks in CHOICES}

    def test_right_behind_each_deed_that_makes(self):
        for rule in RULES:
            self.assertEqual(set(self.ages(WAY, rule, 0).values()), {(0, 0)})
            for back in (1, 60, FAR):
                found = self.ages(Way([("unpack", back)], []), rule, 0)
                self.assertEqual(found.pop(("written",)), (back, back))
                self.assertEqual(set(found.values()), {(0, 0)})

    def test_right_behind_each_other_deed(self):
        for deed, fresh in ((READ, ()), (WRITE, ("written", "changed")), (RENAME, ("changed",)), (TOUCH, MARKS)):
            way = Way([("unpack", 5), deed], [(0, 1, 20, 30)])
            for rule in RULES:
                marks = fresh + ("read",) if deed == READ and rule != NEVER else fresh
                old = {"read": (20, 30), "written": (25, 35), "changed": (20, 30)}
                for looks, found in self.ages(way, rule, 1).items():
                    expected = (0, 0) if set(looks) & set(marks) else min(old[mark] for mark in looks)
                    self.assertEqual(found, expected, (deed, rule.word, looks))

    def test_backs_greater_and_lesser_than_times(self):
        for back in (1, 19, 20, 25, 30, 31, FAR):
            way = Way([MAKE, ("setback", back), READ, RENAME], [(0, 1, 20, 30), (1, 2, 3, 4), (1, 3, 3, 4), (3, 1, 1, 1)])
            for rule in RULES:
                found = self.ages(way, rule, 1)
                for looks in CHOICES:
                    self.assertEqual(found[looks], (0, 0) if "changed" in looks else (back, back))
                found = self.ages(way, rule, 3)
                for looks in CHOICES:
                    self.assertEqual(found[looks], (0, 0) if "changed" in looks else (back + 3, back + 4))
                found = self.ages(way, rule, 2)
                for looks in CHOICES:
                    if "read" in looks and rule != NEVER:
                        self.assertEqual(found[looks], (0, 0))
                    else:
                        self.assertEqual(found[looks], (3, 4) if "changed" in looks else (back + 3, back + 4))

    def test_unpacked_files(self):
        for back in (1, 3, FAR):
            way = Way([("unpack", back), RENAME, READ], [(0, 1, 2, 3), (1, 2, 4, 5)])
            self.assertEqual(self.ages(way, NEVER, 2)[("written",)], (back + 6, back + 8))
            self.assertEqual(self.ages(way, NEVER, 2)[("read", "written")], (6, 8))
            self.assertEqual(self.ages(way, NEVER, 2)[MARKS], (4, 5))

    def test_circles(self):
        for rule, read in ((ALWAYS, (0, 0)), (NEVER, (1, None)), (Rule.seldom(10), (0, 9)), (Rule.seldom(1), (0, 0))):
            found = self.ages(WAY, rule, 1)
            for looks in CHOICES:
                self.assertEqual(found[looks], read if "read" in looks else (1, None))

    def test_behind_and_ahead_of_circles(self):
        way = Way([MAKE, WRITE, READ, READ, RENAME, READ],
                  [(0, 1, 1, 5), (1, 2, 2, 6), (2, 3, 3, 7), (3, 2, 4, 8), (3, 4, 5, 9), (4, 5, 6, 10), (1, 5, 100, 200)])
        found = [greatest_age(way, NEVER, ("read",), node) for node in range(6)]
        self.assertEqual(found, [0, 5, None, None, None, None])
        found = [greatest_age(way, NEVER, MARKS, node) for node in range(6)]
        self.assertEqual(found, [0, 0, None, None, 0, 200])
        found = [greatest_age(way, ALWAYS, ("read",), node) for node in range(6)]
        self.assertEqual(found, [0, 5, 0, 0, 9, 0])
        found = [least_age(way, NEVER, ("read",), node) for node in range(6)]
        self.assertEqual(found, [0, 1, 3, 6, 11, 17])
        found = [least_age(way, NEVER, MARKS, node) for node in range(6)]
        self.assertEqual(found, [0, 0, 2, 5, 0, 6])

    def test_the_longest_way_has_more_arrows(self):
        nodes = [MAKE] + [READ] * 11
        arrows = [(k, k + 1, 7, 8) for k in range(11)] + [(0, k, 30, 40) for k in range(2, 12)]
        for way in (Way(nodes, arrows), Way(nodes, arrows[::-1])):
            for node in range(12):
                self.assertEqual(greatest_age(way, NEVER, MARKS, node), max(8 * node, 40 + 8 * (node - 2) if node > 1 else 0))
                self.assertEqual(least_age(way, NEVER, MARKS, node), min(7 * node, 30))
        back = Way([READ] * 11 + [MAKE], [(k + 1, k, 7, 8) for k in range(11)])
        self.assertEqual([greatest_age(back, NEVER, MARKS, node) for node in range(12)], [8 * (11 - k) for k in range(12)])
        self.assertEqual([least_age(back, NEVER, MARKS, node) for node in range(12)], [7 * (11 - k) for k in range(12)])

    def test_arrows_without_a_greatest_time(self):
        way = Way([MAKE, READ, WRITE, READ], [(0, 1, 5, None), (1, 2, 1, 2), (2, 3, 3, 4), (0, 3, 1, 1)])
        self.assertEqual([greatest_age(way, NEVER, ("read",), node) for node in range(4)], [0, None, None, None])
        self.assertEqual([greatest_age(way, NEVER, ("written",), node) for node in range(4)], [0, None, 0, 4])
        self.assertEqual([least_age(way, NEVER, ("read",), node) for node in range(4)], [0, 5, 6, 1])
        self.assertEqual([greatest_age(way, ALWAYS, ("read",), node) for node in range(4)], [0, 0, 2, 0])

    def test_held_and_anew(self):
        way = Way([MAKE, READ, ("unpack", 9)], [(0, 1, 2, 3, "held"), (1, 2, 50, None, "anew"), (2, 1, 4, 5)])
        self.assertEqual(told(way, NEVER, ("read",)), [(0, 0), (2, 5), (0, 0)])
        self.assertEqual(told(way, NEVER, ("written",)), [(0, 0), (2, 14), (9, 9)])

    def test_behind_reads_that_are_seldom_marked(self):
        way = Way([MAKE, READ, RENAME], [(0, 1, 1, 1), (1, 1, 7, 7), (1, 2, 2, 3)])
        for after, least, most in ((30, 2, 31), (28, 2, 24), (29, 2, 31), (7, 2, 3)):
            self.assertEqual(told(way, Rule.seldom(after), ("read", "written"))[2], (least, most))
        way = Way([MAKE, READ, READ, RENAME], [(0, 1, 1, 1), (1, 2, 7, 8), (2, 3, 2, 3)])
        self.assertEqual(told(way, Rule.seldom(8), ("read",)), [(0, 0), (0, 0), (0, 7), (2, 10)])
        self.assertEqual(told(way, Rule.seldom(9), ("read",)), [(0, 0), (0, 0), (7, 8), (9, 11)])
        self.assertEqual(told(way, Rule.seldom(9), ("written",)), [(0, 0), (1, 1), (8, 9), (10, 12)])

    def test_great_times(self):
        nodes = [MAKE] + [READ] * 11
        way = Way(nodes, [(k, k + 1, FAR, FAR) for k in range(11)])
        self.assertEqual(told(way, NEVER, MARKS), [(k * FAR, k * FAR) for k in range(12)])
        self.assertEqual(told(way, Rule.seldom(2000), MARKS), [(0, 0)] * 12)
        self.assertEqual(told(way, Rule.seldom(2000), ("written",)), [(k * FAR, k * FAR) for k in range(12)])
        way = Way([MAKE, READ, RENAME], [(0, 1, 1, FAR), (1, 1, 1, FAR), (1, 2, 1, FAR)])
        self.assertEqual(told(way, Rule.seldom(2000), ("read",)), [(0, 0), (0, 1999), (1, FAR + 1999)])

    def test_great_ways(self):
        began = time.time()
        for seed in range(3):
            way = great_way(seed)
            for rule, looks in itertools.product((ALWAYS, NEVER, Rule.seldom(1999)), CHOICES):
                self.assertEqual(len(told(way, rule, looks)), 12)
        self.assertLess(time.time() - began, 60)

    def test_errors_in_their_order(self):
        for call in (greatest_age, least_age):
            for value in odd_objects() + [[MAKE], ALWAYS]:
                error = caught(NoWay, call, value, None, None, None)
                self.assertEqual(error.kind, "way")
                self.assertIs(error.index, value)
            for value in odd_objects() + ["always", WAY]:
                self.assertIs(caught(NoRule, call, WAY, value, None, None).value, value)
            for value in wrong_looks():
                self.assertIs(caught(NoMark, call, WAY, ALWAYS, value, None).value, value)
            for value in odd_objects() + [-1, 2, 10 ** 30, READ]:
                error = caught(NoWay, call, WAY, ALWAYS, MARKS, value)
                self.assertEqual(error.kind, "node")
                self.assertIs(error.index, value)
            self.assertEqual(call(way=WAY, rule=ALWAYS, looks=MARKS, node=1), 0)


if __name__ == "__main__":
    unittest.main()
