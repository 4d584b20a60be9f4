import itertools
import random
import unittest

from agedfiles.books import Book
from agedfiles.changes import Menu, least_sets
from agedfiles.errors import NoBook, NoChange, NoRule, NoWay
from agedfiles.rules import Rule
from agedfiles.safety import is_safe
from agedfiles.ways import Way
from tests.helpers import Agreeable, Odd, caught, odd_objects
from tests.model import CHOICES, MARKS
from tests.some_ways import MAKE, READ, RULES, WAY, WRITE, some_uses

ALWAYS, NEVER = Rule.always(), Rule.never()
BOOK = Book(bound=10, looks=("written",))
CHANGES = (("rule", ALWAYS), ("looks", ("read",)), ("bound", 99))
PARTS = {"bound": [0, 1, 6, 15, 99], "looks": CHOICES, "how": ["above", "from"], "day": [1, 2, 60], "grain": [1, 2, 5],
         "spares": [False, True], "late": [0, 1, 60], "again": [False, True], "period": [1, 60], "rule": RULES}
WRONG = {"bound": [-1, 10 ** 12 + 1, True, "9"], "looks": [(), ["read"], ("read", "read"), "read", ("written", "read")],
         "how": ["below", True, ("above",)], "day": [0, 10 ** 9 + 1, True], "grain": [0, 10 ** 6 + 1, False],
         "spares": [0, 1, "no"], "late": [-1, 10 ** 9 + 1, False], "again": [0, 1], "period": [0, 10 ** 9 + 1, True],
         "rule": ["always", ("always",), 7, BOOK]}


def some_changes(source, many):
    return [(part, source.choice(PARTS[part])) for part in source.sample(list(PARTS), many)]


class MenuTest(unittest.TestCase):
    def test_none_to_six_changes(self):
        source = random.Random(71)
        for many in range(7):
            for trial in range(20):
                changes = some_changes(source, many)
                menu = Menu(BOOK, NEVER, *changes)
                self.assertEqual(len(menu), many)
                for chosen in itertools.product((False, True), repeat=many):
                    indexes = [index for index in range(many) if chosen[index]]
                    told = {part: worth for index, (part, worth) in enumerate(changes) if chosen[index]}
                    rule = told.pop("rule", NEVER)
                    self.assertEqual(menu.made(indexes), (BOOK.remade(**told), rule))
                    self.assertEqual(menu.made(tuple(indexes)), (BOOK.remade(**told), rule))

    def test_seven_changes(self):
        changes = some_changes(random.Random(72), 7)
        self.assertIsNone(caught(NoChange, Menu, BOOK, NEVER, *changes).index)
        # Too many come ahead of wrong ones.
        self.assertIsNone(caught(NoChange, Menu, BOOK, NEVER, *[None] * 7).index)
        self.assertEqual(caught(NoChange, Menu, BOOK, NEVER, *[None] * 6).index, 0)

    def test_changes_that_are_none(self):
        good = ("bound", 5)
        wrong = odd_objects() + [("bound",), ("bound", 5, 5), ["bound", 5], ("Bound", 5), ("book", BOOK), ("", 5), (None, 5)]
        wrong += [(part, value) for part in PARTS for value in odd_objects() if part not in ("spares", "again")
                  or not isinstance(value, bool)]
        wrong += [(part, value) for part, values in WRONG.items() for value in values]
        wrong += [(value, 5) for value in odd_objects()]
        for value in wrong:
            self.assertEqual(caught(NoChange, Menu, BOOK, NEVER, value).index, 0, repr(value))
            self.assertEqual(caught(NoChange, Menu, BOOK, NEVER, good, ("late", 5), value).index, 2)
            self.assertEqual(caught(NoChange, Menu, BOOK, NEVER, good, value, value).index, 1)

    def test_a_part_twice(self):
        for part, values in PARTS.items():
            changes = [(part, values[0]), ("bound" if part != "bound" else "day", 9), (part, values[-1])]
            self.assertEqual(caught(NoChange, Menu, BOOK, NEVER, *changes).index, 2)
            self.assertEqual(caught(NoChange, Menu, BOOK, NEVER, changes[0], changes[0], None).index, 1)

    def test_errors_in_their_order(self):
        for value in odd_objects() + [BOOK.parts()]:
            self.assertEqual(caught(NoBook, Menu, value, value, *[None] * 7).part, "book")
            self.assertIs(caught(NoRule, Menu, BOOK, value, *[None] * 7).value, value)

    def test_indexes_that_are_none(self):
        menu = Menu(BOOK, NEVER, *CHANGES)
        wrong = [value for value in odd_objects() if not isinstance(value, (list, tuple))]
        wrong += [[3], [-1], [0, 3], [0, 0], [1, 0], (2, 1), [0, 2, 1], [True], [0, True], [False], ["0"], [None], range(2), {0: 1},
                  {0}, 0, [[0]], [0.0], [0, 1, 2, 3], [0, Agreeable()], [Odd()], (0, 1, 1), (0, 10 ** 30)]
        for value in wrong:
            self.assertIsNone(caught(NoChange, menu.made, value).index)
        self.assertEqual(menu.made([]), (BOOK, NEVER))
        self.assertEqual(menu.made(()), (BOOK, NEVER))
        self.assertEqual(menu.made(chosen=[0, 1, 2]), (Book(bound=99, looks=("read",)), ALWAYS))

    def test_books_are_neither_kept_nor_told(self):
        book = Book(bound=10)
        menu = Menu(book, NEVER, ("late", 7))
        book.bound = 3
        made = menu.made([])
        self.assertEqual(made[0], Book(bound=10))
        made[0].bound = 4
        menu.made([0])[0].bound = 5
        self.assertEqual(menu.made([]), (Book(bound=10), NEVER))
        self.assertEqual(menu.made([0]), (Book(bound=10, late=7), NEVER))
        self.assertEqual(made[0], Book(bound=4))

    def test_what_is_told_is_a_tuple(self):
        self.assertIs(Menu(BOOK, NEVER).made([]).__class__, tuple)
        self.assertEqual(Menu(book=BOOK, rule=NEVER).made([]), (BOOK, NEVER))


class LeastSetsTest(unittest.TestCase):
    def test_example_of_the_document(self):
        menu = Menu(BOOK, NEVER, *CHANGES)
        self.assertEqual(least_sets(menu, WAY), [[0, 1]])

    def test_against_all_sets(self):
        source = random.Random(73)
        kinds = {"none": 0, "plain": 0, "one": 0, "more": 0}
        uses = some_uses(300, seed=74, longest=3) + some_uses(50, seed=75, ends=False)
        for way, rule, book in uses:
            changes = some_changes(source, source.choice([0, 3, 5, 6, 6]))
            ways = [way] + [source.choice(uses)[0] for k in range(source.choice([0, 0, 0, 1, 2]))]
            safe = []
            for many in range(len(changes) + 1):
                for chosen in itertools.combinations(range(len(changes)), many):
                    told = dict(changes[index] for index in chosen)
                    made = told.pop("rule", rule)
                    if all(is_safe(each, made, book.remade(**told)) for each in ways):
                        safe.append(list(chosen))
            least = [chosen for chosen in safe if not any(set(less) < set(chosen) for less in safe)]
            menu = Menu(book, rule, *changes)
            found = least_sets(menu, *ways)
            self.assertEqual(found, least, (changes, book.parts()))
            self.assertEqual(least_sets(menu, *ways), found)
            self.assertEqual(len(menu), len(changes))
            kinds["none" if not found else "plain" if found == [[]] else "one" if len(found) == 1 else "more"] += 1
        self.assertGreater(min(kinds.values()), 8)

    def test_order_of_the_list(self):
        # Safe with one of the last changes, or with both of the first ones.
        way = Way([MAKE, READ, WRITE], [(0, 1, 1, 20), (1, 2, 1, 20), (2, 1, 1, 20)])
        book = Book(bound=10, looks=("read",))
        menu = Menu(book, NEVER, ("rule", ALWAYS), ("day", 4), ("looks", MARKS), ("how", "from"), ("grain", 2), ("bound", 60))
        found = least_sets(menu, way)
        self.assertEqual(found, sorted(found, key=lambda chosen: (len(chosen), chosen)))
        self.assertEqual(found, [[0, 1], [0, 5], [1, 2], [2, 5]])

    def test_safe_as_it_is_and_never(self):
        self.assertEqual(least_sets(Menu(Book(bound=6), ALWAYS), WAY), [[]])
        self.assertEqual(least_sets(Menu(Book(bound=6), ALWAYS, ("bound", 7)), WAY), [[]])
        self.assertEqual(least_sets(Menu(Book(bound=5), ALWAYS), WAY), [])
        self.assertEqual(least_sets(Menu(BOOK, NEVER, ("bound", 10 ** 12), ("looks", MARKS)), WAY), [])

    def test_a_change_that_makes_it_worse(self):
        # Safe without the change, so no greater set is least, though one of them is safe, too.
        menu = Menu(Book(bound=6), ALWAYS, ("bound", 5), ("day", 9))
        self.assertEqual(least_sets(menu, WAY), [[]])
        self.assertEqual(least_sets(Menu(Book(bound=5), ALWAYS, ("looks", ("written",)), ("bound", 9)), WAY), [[1]])

    def test_several_ways(self):
        held = Way([MAKE, READ], [(0, 1, 1, 30, "held"), (1, 1, 1, 30, "held")])
        menu = Menu(Book(bound=0), ALWAYS, ("spares", True), ("bound", 6), ("day", 100))
        self.assertEqual(least_sets(menu, WAY), [[1], [2]])
        self.assertEqual(least_sets(menu, held), [[0], [2]])
        self.assertEqual(least_sets(menu, WAY, held), [[2], [0, 1]])
        self.assertEqual(least_sets(menu, held, WAY, held), [[2], [0, 1]])
        self.assertEqual(least_sets(menu, *[WAY, held] * 8), [[2], [0, 1]])

    def test_new_lists(self):
        menu = Menu(BOOK, NEVER, *CHANGES)
        found = least_sets(menu, WAY)
        found[0].append(2)
        found.append([])
        self.assertEqual(least_sets(menu, WAY), [[0, 1]])

    def test_errors_in_their_order(self):
        menu = Menu(BOOK, NEVER, *CHANGES)
        for value in odd_objects() + [CHANGES, BOOK]:
            self.assertIsNone(caught(NoChange, least_sets, value, value).index)
            self.assertIsNone(caught(NoChange, least_sets, value).index)
            for ways in ([value], [WAY, value], [WAY, WAY, value, None], [value, 5]):
                error = caught(NoWay, least_sets, menu, *ways)
                self.assertEqual(error.kind, "way")
                self.assertIs(error.index, value)
        # Also where no set makes the book safe for the ways ahead.
        never = Menu(BOOK, NEVER, ("bound", 99))
        self.assertEqual(least_sets(never, WAY), [])
        self.assertEqual(caught(NoWay, least_sets, never, WAY, 5, None).index, 5)
        error = caught(NoWay, least_sets, menu)
        self.assertEqual((error.kind, error.index), ("way", None))


if __name__ == "__main__":
    unittest.main()
