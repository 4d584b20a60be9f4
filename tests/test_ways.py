import unittest

from agedfiles.errors import NoWay
from agedfiles.moments import Moment
from agedfiles.ways import Way
from tests.helpers import Agreeable, Odd, caught, odd_objects
from tests.test_deeds import DEEDS, WRONG_DEEDS

BACK = 10 ** 9
MAKE, READ, WRITE = ("make",), ("read",), ("write",)
NODES = [MAKE, READ, WRITE, ("unpack", 60)]


def refused(nodes, arrows):
    error = caught(NoWay, Way, nodes, arrows)
    return error.kind, error.index


def some_way():
    return Way([MAKE, READ, ("unpack", 5)],
               [(0, 1, 1, 7), (1, 1, 2, None, "held"), (1, 2, 3, 3, "anew"), (2, 1, 1, BACK, "")])


class WayTest(unittest.TestCase):
    def test_nodes_and_arrows(self):
        way = some_way()
        self.assertEqual(way.nodes(), [MAKE, READ, ("unpack", 5)])
        self.assertEqual(way.arrows(), [(0, 1, 1, 7, ""), (1, 1, 2, None, "held"), (1, 2, 3, 3, "anew"),
                                        (2, 1, 1, BACK, "")])
        self.assertEqual([row.__class__ for row in way.arrows()], [tuple] * 4)

    def test_way_of_the_document(self):
        way = Way([("make",), ("read",)], [(0, 1, 1, 7), (1, 1, 1, 7)])
        self.assertEqual(way.arrows(), [(0, 1, 1, 7, ""), (1, 1, 1, 7, "")])

    def test_returned_lists_are_new(self):
        way = some_way()
        way.nodes().clear()
        way.arrows().clear()
        way.nodes()[0] = READ
        self.assertEqual(way, some_way())

    def test_lists_that_are_changed_behind_the_call(self):
        nodes, arrows = [MAKE, READ], [(0, 1, 1, 7), (1, 1, 1, 7)]
        way = Way(nodes, arrows)
        nodes.append(WRITE)
        nodes[0] = ("touch",)
        arrows.clear()
        self.assertEqual(way.nodes(), [MAKE, READ])
        self.assertEqual(way.arrows(), [(0, 1, 1, 7, ""), (1, 1, 1, 7, "")])
        self.assertEqual(len(way), 2)

    def test_handed_lists_stay_as_they_are(self):
        nodes, arrows = [MAKE, READ], [(0, 1, 1, 7), (1, 1, 1, 7, "held")]
        Way(nodes, arrows)
        self.assertEqual(nodes, [MAKE, READ])
        self.assertEqual(arrows, [(0, 1, 1, 7), (1, 1, 1, 7, "held")])

    def test_tuples_serve_as_lists(self):
        self.assertEqual(Way((MAKE, READ), ((0, 1, 1, 7),)), Way([MAKE, READ], [(0, 1, 1, 7)]))
        self.assertEqual(Way(nodes=(MAKE,), arrows=()).arrows(), [])

    def test_single_nodes(self):
        way = some_way()
        self.assertEqual([way[k] for k in range(3)], [MAKE, READ, ("unpack", 5)])
        for value in odd_objects() + [-1, 3, 10 ** 30, slice(0, 2), Moment(1)]:
            with self.subTest(value=repr(value)):
                error = caught(NoWay, lambda at: way[at], value)
                self.assertEqual(error.kind, "node")
                self.assertIs(error.index, value)

    def test_length(self):
        self.assertEqual([len(some_way()), len(Way([MAKE], []))], [3, 1])

    def test_each_deed_can_be_a_node(self):
        for deed, found, made in DEEDS:
            nodes, arrows = ([deed], []) if made else ([MAKE, deed], [(0, 1, 1, 1)])
            self.assertEqual(Way(nodes, arrows).nodes(), nodes)

    def test_arrow_for_all_pairs(self):
        way = some_way()
        table = {(row[0], row[1]): row for row in way.arrows()}
        for start in range(-1, 5):
            for goal in range(-1, 5):
                self.assertEqual(way.arrow(start, goal), table.get((start, goal)))
        self.assertEqual(way.arrow(start=0, goal=1), (0, 1, 1, 7, ""))

    def test_arrow_for_odd_objects(self):
        way = some_way()
        for value in odd_objects():
            with self.subTest(value=repr(value)):
                self.assertIsNone(way.arrow(value, 1))
                self.assertIsNone(way.arrow(1, value))
                self.assertIsNone(way.arrow(value, value))

    def test_equality(self):
        self.assertIs(some_way() == some_way(), True)
        self.assertIs(some_way() != some_way(), False)
        nodes, arrows = [MAKE, READ], [(0, 1, 1, 7), (1, 1, 1, 7)]
        way = Way(nodes, arrows)
        self.assertIs(way == Way(nodes, [(0, 1, 1, 7, ""), (1, 1, 1, 7, "")]), True)
        for other in (Way([("unpack", 3), READ], arrows), Way([MAKE, WRITE], arrows), Way(nodes, arrows[:1]),
                      Way(nodes, arrows[::-1]), Way(nodes, [(0, 1, 1, 7), (1, 1, 1, 8)]),
                      Way(nodes, [(0, 1, 1, 7), (1, 1, 2, 7)]), Way(nodes, [(0, 1, 1, 7), (1, 1, 1, None)]),
                      Way(nodes, [(0, 1, 1, 7), (1, 1, 1, 7, "held")]),
                      Way([READ, MAKE], [(1, 0, 1, 7), (0, 0, 1, 7)])):
            self.assertIs(way == other, False)
            self.assertIs(way != other, True)

    def test_never_equal_to_other_classes(self):
        class Alike:
            deeds, links = (MAKE,), ()
        for value in ([MAKE], (MAKE,), ([MAKE], []), None, Alike(), Agreeable()):
            self.assertIs(Way([MAKE], []) == value, False)

    def test_not_gone_through(self):
        with self.assertRaises(TypeError):
            list(some_way())


class NoNodesTest(unittest.TestCase):
    def test_no_list_of_nodes(self):
        for value in [value for value in odd_objects() if not isinstance(value, (list, tuple))] + \
                ["make", {0: MAKE}, iter([MAKE]), [], (), [MAKE] * 13, (MAKE,) * 13, some_way()]:
            with self.subTest(value=repr(value)):
                self.assertEqual(refused(value, []), ("node", None))
                self.assertEqual(refused(value, None), ("node", None))

    def test_most_nodes(self):
        self.assertEqual(len(Way([MAKE] * 12, [])), 12)

    def test_first_that_is_no_deed(self):
        for value in WRONG_DEEDS:
            with self.subTest(value=repr(value)):
                self.assertEqual(refused([value], []), ("node", 0))
                self.assertEqual(refused([MAKE, MAKE, value, ("none",)], None), ("node", 2))


class NoArrowsTest(unittest.TestCase):
    def test_no_list_of_arrows(self):
        for value in [value for value in odd_objects() if not isinstance(value, (list, tuple))] + \
                ["", {}, iter([]), [(0, 1, 1, 1)] * 41, some_way()]:
            with self.subTest(value=repr(value)):
                self.assertEqual(refused([MAKE, READ], value), ("arrow", None))

    def test_most_arrows(self):
        nodes = [MAKE] + [READ] * 7
        arrows = [(start, goal, 1, 1) for start in range(8) for goal in range(1, 8)]
        self.assertEqual(len(Way(nodes, arrows[:40]).arrows()), 40)
        self.assertEqual(refused(nodes, arrows[:41]), ("arrow", None))

    def test_things_that_are_no_arrows(self):
        good = (0, 1, 1, 7, "")
        wrong = odd_objects() + [(0, 1), (0, 1, 1), (0, 1, 1, 7, "", ""), [0, 1, 1, 7], [0, 1, 1, 7, ""], "0117"]
        for place, values in enumerate([
                odd_objects() + [-1, 4, 10 ** 30],
                odd_objects() + [-1, 4, 10 ** 30],
                odd_objects() + [0, -1, 8, BACK + 1],
                [value for value in odd_objects() if value is not None] + [0, -1, BACK + 1],
                odd_objects() + ["Held", "new", " ", "heldanew", ("held",), 0]]):
            for value in values:
                row = good[:place] + (value,) + good[place + 1:]
                wrong.append(row)
                if place < 4:
                    wrong.append(row[:4])
        for value in wrong:
            with self.subTest(value=repr(value)):
                self.assertEqual(refused(NODES, [value]), ("arrow", 0))
                self.assertEqual(refused(NODES, [(0, 2, 1, 1), (0, 1, 1, 1), value, None]), ("arrow", 2))

    def test_least_above_most(self):
        self.assertEqual(refused([MAKE, READ], [(0, 1, 8, 7)]), ("arrow", 0))
        self.assertEqual(refused([MAKE, READ], [(0, 1, BACK + 1, None)]), ("arrow", 0))
        for least, most in ((1, 1), (7, 7), (BACK, BACK), (BACK, None), (1, BACK)):
            self.assertEqual(Way([MAKE, READ], [(0, 1, least, most)]).arrows(), [(0, 1, least, most, "")])

    def test_deeds_that_make_are_led_to_anew_only(self):
        for word in ("", "held"):
            for goal in (0, 3):
                self.assertEqual(refused(NODES, [(0, 1, 1, 1), (1, goal, 1, 1, word)]), ("arrow", 1))
        self.assertEqual(refused(NODES, [(0, 1, 1, 1), (1, 3, 1, 1)]), ("arrow", 1))

    def test_anew_leads_to_deeds_that_make_only(self):
        for deed, found, made in DEEDS:
            if not made:
                self.assertEqual(refused([MAKE, deed], [(0, 1, 1, 1, "anew")]), ("arrow", 0))

    def test_same_start_and_goal(self):
        self.assertEqual(refused([MAKE, READ], [(0, 1, 1, 1), (1, 1, 1, 1), (0, 1, 2, 2, "held")]), ("arrow", 2))
        self.assertEqual(refused([MAKE, READ], [(0, 1, 1, 1), (0, 1, 1, 1), None]), ("arrow", 1))
        self.assertEqual(refused([MAKE, READ], [(0, 1, 1, 1), None, (0, 1, 1, 1)]), ("arrow", 1))
        nodes = [MAKE, READ, WRITE]
        self.assertEqual(len(Way(nodes, [(0, 1, 1, 1), (1, 2, 1, 1), (2, 1, 1, 1)]).arrows()), 3)


class AnewTest(unittest.TestCase):
    def test_goal_without_an_arrow_of_another_word(self):
        self.assertEqual(refused([MAKE], [(0, 0, 1, 1, "anew")]), ("arrow", 0))
        self.assertEqual(refused([MAKE, MAKE], [(0, 1, 1, 1, "anew"), (1, 0, 1, 1, "anew")]), ("arrow", 0))
        arrows = [(0, 1, 1, 1), (1, 0, 1, 1, "anew"), (1, 3, 1, 1, "anew"), (1, 2, 1, 1)]
        self.assertEqual(refused(NODES, arrows), ("arrow", 2))
        self.assertEqual(len(Way(NODES, arrows + [(3, 1, 1, 1)]).arrows()), 5)

    def test_goal_with_an_arrow_of_another_word(self):
        for word in ("", "held"):
            way = Way([MAKE, READ], [(0, 0, 1, 1, "anew"), (0, 1, 1, 1, word)])
            self.assertEqual(way.arrow(0, 0), (0, 0, 1, 1, "anew"))

    def test_arrows_that_are_none_come_first(self):
        self.assertEqual(refused([MAKE], [(0, 0, 1, 1, "anew"), None]), ("arrow", 1))

    def test_nodes_that_are_not_reached_come_last(self):
        self.assertEqual(refused([READ, MAKE], [(1, 1, 1, 1, "anew")]), ("arrow", 0))


class ReachedTest(unittest.TestCase):
    def test_nodes_that_make_are_reached(self):
        self.assertEqual(len(Way([MAKE, ("unpack", 1), MAKE], [])), 3)

    def test_first_node_that_is_not_reached(self):
        self.assertEqual(refused([READ], []), ("node", 0))
        self.assertEqual(refused([MAKE, READ], []), ("node", 1))
        self.assertEqual(refused([MAKE, READ, WRITE], [(0, 2, 1, 1)]), ("node", 1))
        self.assertEqual(refused([MAKE, READ, WRITE], [(0, 1, 1, 1)]), ("node", 2))
        self.assertEqual(refused([MAKE, READ, WRITE, READ], [(0, 1, 1, 1), (2, 3, 1, 1), (3, 2, 1, 1)]), ("node", 2))
        self.assertEqual(refused([MAKE, READ], [(1, 1, 1, 1)]), ("node", 1))

    def test_against_the_arrows(self):
        self.assertEqual(refused([MAKE, READ, WRITE], [(0, 1, 1, 1), (2, 1, 1, 1)]), ("node", 2))

    def test_reached_over_many_arrows(self):
        nodes = [READ] * 11 + [MAKE]
        arrows = [(k, k - 1, 1, 1) for k in range(11, 0, -1)]
        self.assertEqual(Way(nodes, arrows).nodes(), nodes)
        self.assertEqual(Way(nodes, arrows[::-1]).nodes(), nodes)
        self.assertEqual(refused(nodes, arrows[:5] + arrows[6:]), ("node", 0))

    def test_held_arrows_lead_on(self):
        self.assertEqual(len(Way([MAKE, READ], [(0, 1, 1, 1, "held")])), 2)


class OddPartsTest(unittest.TestCase):
    def test_odd_parts_of_arrows(self):
        for row in ((Odd(), Odd(), Odd(), Odd()), (Agreeable(), 1, 1, 1), (0, 1, 1, 1, Agreeable())):
            self.assertEqual(refused(NODES, [row]), ("arrow", 0))


if __name__ == "__main__":
    unittest.main()
