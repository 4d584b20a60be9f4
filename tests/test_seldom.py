import random
import time
import unittest

from agedfiles.errors import NoRule, NoWay
from agedfiles.rules import Rule
from agedfiles.seldom import ages_of_read
from agedfiles.stretches import Stretches
from agedfiles.ways import Way
from tests.helpers import caught, odd_objects
from tests.model import lives_of, marks_at
from tests.some_ways import MAKE, MIXED, READ, RENAME, TOUCH, WAY, WRITE, some_uses


def ages_by_lives(way, rule, steps, most=None):
    """The dict from the reads to the ages that lives of up to some steps bring."""
    found = {node: set() for node, deed in enumerate(way.nodes()) if deed == READ}
    for many in range(2, steps + 1):
        for row in lives_of(way, many, 0, most):
            node, moment = row[-1]
            if node in found:
                found[node].add(moment - marks_at(way, rule, row, moment)["read"])
    return found


def ages_by_sums(way, after, far):
    """The same for all lives, by single ages; times beyond far count as far."""
    found = {node: set() for node, deed in enumerate(way.nodes()) if deed == READ}
    arrows = [arrow for arrow in way.arrows() if arrow[1] in found]
    while True:
        many = sum(map(len, found.values()))
        for start, goal, least, most, word in arrows:
            if start not in found:
                found[goal].add(0)
            else:
                top = far if most is None else min(most, far)
                sums = {age + time for age in found[start] for time in range(min(least, far), top + 1)}
                found[goal] |= {age if age < after else 0 for age in sums}
        if many == sum(map(len, found.values())):
            return found


def told(way, rule):
    return {node: set(ages_of_read(way, rule, node).numbers()) for node, deed in enumerate(way.nodes()) if deed == READ}


class AgesOfReadTest(unittest.TestCase):
    def test_examples_of_the_document(self):
        self.assertEqual(ages_of_read(WAY, Rule.seldom(10), 1).pairs(), [(0, 9)])
        way = Way([MAKE, READ], [(0, 1, 6, 7), (1, 1, 6, 7)])
        self.assertEqual(ages_of_read(way, Rule.seldom(10), 1).pairs(), [(0, 0), (6, 7)])

    def test_a_stretches(self):
        found = ages_of_read(way=WAY, rule=Rule.seldom(10), node=1)
        self.assertIsInstance(found, Stretches)
        self.assertEqual(found, Stretches((0, 9)))

    def test_against_all_lives(self):
        for number, (way, rule, book) in enumerate(some_uses(60, seed=6, longest=3)):
            for after in (1, 2, 3, 4):
                if READ in way.nodes():
                    rule = Rule.seldom(after)
                    self.assertEqual(told(way, rule), ages_by_lives(way, rule, 6), (number, after))

    def test_arrows_without_a_greatest_time(self):
        alike = 0
        for way, rule, book in some_uses(60, ends=False, seed=7, longest=3):
            for after in (1, 2, 4):
                found, brought = told(way, Rule.seldom(after)), ages_by_lives(way, Rule.seldom(after), 5, most=6)
                # Some ages need longer lives.
                self.assertEqual([node for node in brought if brought[node] - found[node]], [])
                alike += bool(found) and found == brought
        self.assertGreater(alike, 100)

    def test_all_lives_by_single_ages(self):
        for way, rule, book in some_uses(100, ends=False, seed=8, longest=9):
            for after in (1, 5, 13, 40):
                self.assertEqual(told(way, Rule.seldom(after)), ages_by_sums(way, after, 50))

    def test_behind_each_other_deed(self):
        for deed in (WRITE, RENAME, TOUCH, ("setback", 3), ("setback", 10 ** 9)):
            way = Way([MAKE, READ, deed, READ, READ],
                      [(0, 1, 5, 5), (1, 1, 5, 5), (1, 2, 3, 3), (2, 3, 4, 4), (3, 4, 6, 6)])
            rule = Rule.seldom(100)
            self.assertEqual(ages_of_read(way, rule, 1).pairs(), [(k, k) for k in range(0, 100, 5)])
            self.assertEqual(ages_of_read(way, rule, 3).pairs(), [(0, 0)])
            self.assertEqual(ages_of_read(way, rule, 4).pairs(), [(6, 6)])

    def test_held_and_anew(self):
        way = Way([MAKE, READ, READ], [(0, 1, 2, 2, "held"), (1, 0, 3, 9, "anew"), (1, 2, 7, 7, "held"), (2, 0, 1, 1, "anew")])
        self.assertEqual(ages_of_read(way, Rule.seldom(10), 1).pairs(), [(0, 0)])
        self.assertEqual(ages_of_read(way, Rule.seldom(8), 2).pairs(), [(7, 7)])
        self.assertEqual(ages_of_read(way, Rule.seldom(7), 2).pairs(), [(0, 0)])
        self.assertEqual(told(MIXED, Rule.seldom(3)), ages_by_lives(MIXED, Rule.seldom(3), 7))

    def test_chains(self):
        many = 12
        way = Way([MAKE] + [READ] * (many - 1), [(k, k + 1, 10, 11) for k in range(many - 1)])
        for node in range(1, many):
            self.assertEqual(ages_of_read(way, Rule.seldom(1000), node).pairs(), [((node - 1) * 10, (node - 1) * 11)])
        # Behind five reads the mark is set, or one read later.
        found = ages_of_read(way, Rule.seldom(53), 6).pairs()
        self.assertEqual(found, [(0, 0), (50, 52)])
        self.assertEqual(ages_of_read(way, Rule.seldom(53), 7).pairs(), [(0, 0), (10, 11)])

    def test_arrows_of_any_width(self):
        for width in list(range(20)) + [63, 64, 65, 1000]:
            way = Way([MAKE, READ, READ, READ], [(0, 1, 1, 9), (1, 2, 3, 3 + width), (2, 3, 5, 5 + 2 * width)])
            self.assertEqual(ages_of_read(way, Rule.seldom(2000), 2).pairs(), [(3, 3 + width)])
            self.assertEqual(ages_of_read(way, Rule.seldom(2000), 3).pairs(),
                             [(8, 8 + 3 * width)] if 8 + 3 * width < 2000 else [(0, 0), (8, 1999)])
            self.assertEqual(ages_of_read(way, Rule.seldom(8), 2).pairs(), [(3, 3 + width)] if width < 5 else [(0, 0), (3, 7)])

    def test_no_other_way_to_come_to_an_age(self):
        way = Way([MAKE, READ], [(0, 1, 1, 1), (1, 1, 7, 7)])
        for after in (1, 6, 7, 8, 14, 2000):
            self.assertEqual(ages_of_read(way, Rule.seldom(after), 1).pairs(), [(k, k) for k in range(0, after, 7)])

    def test_least_and_greatest_after(self):
        endless = Way([MAKE, READ], [(0, 1, 1, None), (1, 1, 5, None)])
        self.assertEqual(ages_of_read(endless, Rule.seldom(1), 1).pairs(), [(0, 0)])
        self.assertEqual(ages_of_read(endless, Rule.seldom(5), 1).pairs(), [(0, 0)])
        self.assertEqual(ages_of_read(endless, Rule.seldom(6), 1).pairs(), [(0, 0), (5, 5)])
        self.assertEqual(ages_of_read(endless, Rule.seldom(2000), 1).pairs(), [(0, 0), (5, 1999)])
        self.assertEqual(ages_of_read(WAY, Rule.seldom(1), 1).pairs(), [(0, 0)])
        self.assertEqual(ages_of_read(WAY, Rule.seldom(2000), 1).pairs(), [(0, 1999)])

    def test_great_times(self):
        far = 10 ** 9
        for least, most, pairs in ((1, far, [(0, 1999)]), (1999, far, [(0, 0), (1999, 1999)]), (2000, far, [(0, 0)]),
                                   (far, far, [(0, 0)]), (far, None, [(0, 0)]), (1998, 1999, [(0, 0), (1998, 1999)])):
            way = Way([MAKE, READ], [(0, 1, far, far), (1, 1, least, most)])
            self.assertEqual(ages_of_read(way, Rule.seldom(2000), 1).pairs(), pairs)

    def test_great_ways(self):
        source = random.Random(9)
        nodes = [MAKE] + [READ] * 11
        began = time.time()
        for trial in range(8):
            ring = [(0, 1)] + [(k, k % 11 + 1) for k in range(1, 12)]
            rest = [(a, b) for a in range(12) for b in range(1, 12) if (a, b) not in ring]
            source.shuffle(rest)
            arrows = []
            for start, goal in ring + rest[:28 * (trial % 2)]:
                least = source.choice([1, 2, 3, 7, 500, 1000]) if trial > 1 else 1
                arrows.append((start, goal, least, least + (source.random() < 0.1)))
            way = Way(nodes, arrows)
            after = source.choice([1999, 2000])
            self.assertEqual(set(ages_of_read(way, Rule.seldom(after), 5).numbers()), ages_by_sums(way, after, 2000)[5])
        self.assertLess(time.time() - began, 60)

    def test_errors_in_their_order(self):
        rule = Rule.seldom(10)
        for value in odd_objects() + [[MAKE], rule]:
            error = caught(NoWay, ages_of_read, value, None, None)
            self.assertEqual(error.kind, "way")
            self.assertIs(error.index, value)
        for value in odd_objects() + ["seldom", WAY, Rule.always(), Rule.never()]:
            self.assertIs(caught(NoRule, ages_of_read, WAY, value, None).value, value)
        for value in odd_objects() + [0, -1, 2, 10 ** 30, READ]:
            error = caught(NoWay, ages_of_read, WAY, rule, value)
            self.assertEqual(error.kind, "node")
            self.assertIs(error.index, value)
        self.assertEqual(caught(NoWay, ages_of_read, MIXED, rule, 2).index, 2)
        self.assertEqual(caught(NoWay, ages_of_read, MIXED, rule, 3).index, 3)


if __name__ == "__main__":
    unittest.main()
