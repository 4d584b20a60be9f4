import doctest
import io
import unittest

# The examples of the document, letter by letter.
EXAMPLES = """
>>> from agedfiles.moments import Moment
>>> moment = Moment(100)
>>> [(moment + 5).seconds, (5 + moment) - moment, moment < Moment(99), moment.seen(30).seconds]
[105, 5, False, 90]

>>> from agedfiles.stretches import Stretches
>>> some = Stretches((3, 5), (9, None)) | Stretches((6, 6))
>>> [some.pairs(), 7 in some, (some & Stretches((0, 4))).pairs(), (some + 2).least(), some.has_end()]
[[(3, 6), (9, None)], False, [(3, 4)], 5, False]

>>> from agedfiles.deeds import backs, is_deed, makes
>>> [backs(("unpack", 60)), makes(("unpack", 60)), is_deed(("read", 3))]
[{'read': 0, 'written': 60, 'changed': 0}, True, False]

>>> from agedfiles.files import File
>>> from agedfiles.rules import Rule
>>> file = File(Rule.seldom(10), ("make",), 0)
>>> [file.do(("read",), 7), file.do(("read",), 14), file.do(("read",), 20), file.marks()]
[['read'], [], ['read'], {'read': 20, 'written': 0, 'changed': 0}]

>>> from agedfiles.books import Book
>>> from agedfiles.rules import Rule
>>> from agedfiles.safety import greatest_seen, is_safe, least_bound
>>> from agedfiles.seldom import ages_of_read
>>> from agedfiles.ways import Way
>>> way = Way([("make",), ("read",)], [(0, 1, 1, 7), (1, 1, 1, 7)])
>>> rule, book = Rule.seldom(10), Book(bound=15)
>>> [ages_of_read(way, rule, 1).pairs(), greatest_seen(way, rule, book), is_safe(way, rule, book), least_bound(way, rule, book)]
[[(0, 9)], 15, True, 15]

>>> from agedfiles.books import Book
>>> from agedfiles.rules import Rule
>>> from agedfiles.safety import least_bound
>>> from agedfiles.seldom import ages_of_read
>>> from agedfiles.ways import Way
>>> way = Way([("make",), ("read",)], [(0, 1, 6, 7), (1, 1, 6, 7)])
>>> [ages_of_read(way, Rule.seldom(10), 1).pairs(), least_bound(way, Rule.seldom(10), Book(bound=1))]
[[(0, 0), (6, 7)], 13]

>>> from agedfiles.books import Book
>>> from agedfiles.faults import is_fault
>>> from agedfiles.rules import Rule
>>> from agedfiles.safety import least_bound
>>> from agedfiles.shortest import shortest_fault
>>> from agedfiles.ways import Way
>>> way = Way([("make",), ("read",)], [(0, 1, 1, 7), (1, 1, 1, 7)])
>>> book = Book(bound=10, looks=("written",))
>>> fault = shortest_fault(way, Rule.always(), book)
>>> [len(fault[0]), is_fault(way, Rule.always(), book, fault), least_bound(way, Rule.always(), book)]
[3, True, None]

>>> from agedfiles.books import Book
>>> from agedfiles.rules import Rule
>>> from agedfiles.stays import stay
>>> from agedfiles.ways import Way
>>> way = Way([("make",), ("read",)], [(0, 1, 1, 7), (1, 1, 1, 7)])
>>> stay(way, Rule.always(), Book(bound=10, period=5, late=2))
(11, 17)

>>> from agedfiles.books import Book
>>> from agedfiles.compare import parting
>>> [Book(bound=9) <= Book(bound=8), Book(bound=9, looks=("read",)) <= Book(bound=9), parting(Book(bound=9), Book(bound=8))]
[True, False, None]

>>> from agedfiles.books import Book
>>> from agedfiles.checker import is_paper
>>> from agedfiles.papers import paper_of
>>> from agedfiles.rules import Rule
>>> from agedfiles.ways import Way
>>> way = Way([("make",), ("read",)], [(0, 1, 1, 7), (1, 1, 1, 7)])
>>> paper = paper_of(way, Rule.seldom(10), Book(bound=15))
>>> [paper[2], is_paper(way, Rule.seldom(10), Book(bound=15), paper), is_paper(way, Rule.seldom(10), Book(bound=14), paper)]
[((1, ((0, 9),)),), True, False]

>>> from agedfiles.books import Book
>>> from agedfiles.changes import Menu, least_sets
>>> from agedfiles.rules import Rule
>>> from agedfiles.ways import Way
>>> way = Way([("make",), ("read",)], [(0, 1, 1, 7), (1, 1, 1, 7)])
>>> book = Book(bound=10, looks=("written",))
>>> menu = Menu(book, Rule.never(), ("rule", Rule.always()), ("looks", ("read",)), ("bound", 99))
>>> least_sets(menu, way)
[[0, 1]]

>>> from agedfiles.books import Book
>>> from agedfiles.console import Console
>>> from agedfiles.rules import Rule
>>> console = Console(Book(bound=15), Rule.seldom(10))
>>> [console.say("keep log make; read; 0 > 1 1..7; 1 > 1 1..7"), console.say("safe log"), console.say("seen log"), console.say("stay log")]
['ok', 'yes', '15', '7 16']
"""


class ExamplesTest(unittest.TestCase):
    def test_examples_of_the_document(self):
        for text in EXAMPLES.split("\n\n"):
            # Each one stands for itself.
            example = doctest.DocTestParser().get_doctest(text + "\n", {}, "example", "example", 0)
            told = io.StringIO()
            found = doctest.DocTestRunner().run(example, out=told.write)
            self.assertGreater(found.attempted, 1)
            self.assertEqual(found.failed, 0, told.getvalue())

    def test_all_are_there(self):
        self.assertEqual(len(EXAMPLES.split("\n\n")), 12)


if __name__ == "__main__":
    unittest.main()
