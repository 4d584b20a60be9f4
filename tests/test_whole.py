"""What the document promises over the whole program: functions of different modules held against one another."""

import importlib
import inspect
import itertools
import pathlib
import random
import unittest

from agedfiles import errors
from agedfiles.ages import greatest_age, least_age
from agedfiles.books import Book
from agedfiles.changes import Menu, least_sets
from agedfiles.checker import is_paper
from agedfiles.compare import parting
from agedfiles.console import Console
from agedfiles.deeds import MARKS, backs
from agedfiles.errors import NoName, TooLong
from agedfiles.faults import faults, is_fault
from agedfiles.files import File
from agedfiles.papers import paper_of
from agedfiles.rows import file_at, is_row, rows
from agedfiles.rules import Rule
from agedfiles.safety import greatest_seen, is_safe, least_bound, safe_looks
from agedfiles.seldom import ages_of_read
from agedfiles.sessions import Session
from agedfiles.shortest import shortest_fault
from agedfiles.stays import stay
from agedfiles.stretches import Stretches
from agedfiles.texts import read_book, read_deed, read_rule, read_way, show_book, show_deed, show_rule, show_way
from agedfiles.ways import Way
from tests.model import CHOICES
from tests.some_ways import MAKE, READ, RULES, WAY, some_book, some_uses
from tests.test_changes import some_changes

# The names of the parameters as the interface lists them.
PARAMETERS = {
    "moments": {"Moment": "seconds", "Moment.seen": "grain"},
    "stretches": {"Stretches": "*pairs", "Stretches.spread": "least most", "Stretches.below": "bound", "Stretches.one": "n",
                  "Stretches.pairs": "", "Stretches.least": "", "Stretches.greatest": "", "Stretches.has_end": "",
                  "Stretches.count": "", "Stretches.numbers": "", "Stretches.none": "", "Stretches.everything": ""},
    "deeds": {"is_deed": "value", "makes": "value", "backs": "deed"},
    "rules": {"Rule.always": "", "Rule.never": "", "Rule.seldom": "after", "Rule.__call__": "file at"},
    "files": {"File": "rule deed at", "File.do": "deed at", "File.latest": "looks", "File.within": "visitor", "File.marks": "",
              "File.hold": "", "File.double": ""},
    "ways": {"Way": "nodes arrows", "Way.arrow": "start goal", "Way.nodes": "", "Way.arrows": ""},
    "rows": {"is_row": "way value", "rows": "way many start=0", "file_at": "way rule row at"},
    "books": {"Book.change": "part value", "Book.parts": "", "Book.remade": "**parts", "Book.twin": "", "Book.threshold": "",
              "Book.careful": "bound", "Book.hasty": "bound", "Book.__call__": "file at", "seen_age": "book marks at"},
    "faults": {"is_fault": "way rule book value", "faults": "way rule book many"},
    "seldom": {"ages_of_read": "way rule node"},
    "ages": {"greatest_age": "way rule looks node", "least_age": "way rule looks node"},
    "safety": {name: "way rule book" for name in ("greatest_seen", "is_safe", "least_bound", "safe_looks")},
    "shortest": {"shortest_fault": "way rule book"},
    "stays": {"stay": "way rule book"},
    "compare": {"parting": "one other"},
    "papers": {"paper_of": "way rule book"},
    "checker": {"is_paper": "way rule book value"},
    "changes": {"Menu": "book rule *changes", "Menu.made": "chosen", "least_sets": "menu *ways"},
    "texts": {"show_rule": "rule", "read_rule": "text", "show_deed": "deed", "read_deed": "text", "show_book": "book",
              "read_book": "text", "show_way": "way", "read_way": "text"},
    "sessions": {"Session": "book rule", "Session.keep": "name way", "Session.remove": "name", "Session.names": "",
                 "Session.take_book": "book", "Session.take_rule": "rule", "Session.change": "part value", "Session.safe": "name",
                 "Session.unsafe_names": "", "Session.trial": "", "Session.within": "visitor"},
    "console": {"Console": "book rule", "Console.say": "row"},
}
PROPERTIES = {
    "moments": {"Moment": {"seconds": False}},
    "rules": {"Rule": {"word": False, "after": False}},
    "files": {"File": {"last": False, "held": True}},
    "books": {"Book": {part: True for part in "bound looks how day grain spares late again period".split()}},
    "sessions": {"Session": {"book": True, "rule": True, "trying": False}},
    "console": {"Console": {"session": False}},
}


def parameters(thing):
    """The parameters as they are written, without self."""
    found = [str(each) for each in inspect.signature(thing).parameters.values()]
    return " ".join(each for each in found if each != "self")


class InterfaceTest(unittest.TestCase):
    def test_parameters(self):
        for stem, things in PARAMETERS.items():
            module = importlib.import_module("agedfiles." + stem)
            for path, told in things.items():
                thing = module
                for name in path.split("."):
                    thing = getattr(thing, name)
                with self.subTest(path):
                    self.assertEqual(parameters(thing), told)
                    self.assertEqual(thing.__module__, "agedfiles." + stem)
        self.assertEqual(str(inspect.signature(Book)), "(*, bound, looks=('read', 'written', 'changed'), how='above', day=1, "
                                                       "grain=1, spares=False, late=0, again=True, period=1)")

    def test_properties(self):
        for stem, classes in PROPERTIES.items():
            module = importlib.import_module("agedfiles." + stem)
            for name, found in classes.items():
                told = {key: value.fset is not None for key, value in vars(getattr(module, name)).items()
                        if isinstance(value, property)}
                self.assertEqual(told, found, name)

    def test_errors_stand_straight_under_one(self):
        for path in sorted(pathlib.Path(errors.__file__).parent.glob("*.py")):
            module = importlib.import_module("agedfiles." + path.stem) if path.stem != "__init__" else errors
            for name, thing in vars(module).items():
                if isinstance(thing, type) and issubclass(thing, BaseException) and thing is not errors.AgeError:
                    self.assertEqual((thing.__bases__, thing.__module__), ((errors.AgeError,), "agedfiles.errors"))


class PromisesTest(unittest.TestCase):
    def test_safe_by_all_ways_to_ask(self):
        many = {True: 0, False: 0}
        for way, rule, book in some_uses(150, seed=101, longest=3) + some_uses(50, seed=102, ends=False):
            book.bound = 3 * book.bound
            safe = is_safe(way, rule, book)
            many[safe] += 1
            seen, bound = greatest_seen(way, rule, book), least_bound(way, rule, book)
            self.assertIs(seen is not None and seen < book.threshold(), safe)
            self.assertIs(bound is not None and bound <= book.bound, safe)
            self.assertIs(any(set(looks) <= set(book.looks) for looks in safe_looks(way, rule, book)), safe)
            self.assertIs(least_sets(Menu(book, rule), way) == [[]], safe)
            paper = paper_of(way, rule, book)
            self.assertIs(paper is not None, safe)
            self.assertIs(is_paper(way, rule, book, paper), safe)
            self.check_fault(way, rule, book, safe)
            console = Console(book, rule)
            console.session["way"] = way
            self.assertIs(console.session.safe("way"), safe)
            self.assertEqual(console.session.unsafe_names(), [] if safe else ["way"])
            self.assertEqual([console.say(word + " way") for word in ("safe", "least", "seen", "stay")],
                             ["yes" if safe else "no", str(bound).lower(), str(seen).lower(), "%d %d" % stay(way, rule, book)])
        self.assertGreater(min(many.values()), 50)

    def check_fault(self, way, rule, book, safe):
        """The shortest fault is one, and just the others that go through all short rows tell of its length."""
        try:
            fault = shortest_fault(way, rule, book)
        except TooLong as e:
            self.assertEqual((e.limit, safe), (60, False))
            return
        self.assertIs(fault is None, safe)
        self.assertIs(is_fault(way, rule, book, fault), not safe)
        if all(arrow[3] is not None for arrow in way.arrows()):
            first = next(faults(way, rule, book, 4), None)
            steps = len(fault[0]) if fault is not None else 5
            self.assertEqual(len(first[0]) if first is not None else 5, min(steps, 5))

    def test_ages_of_rows(self):
        for way, rule, book in some_uses(50, seed=103, longest=3):
            reads = {node: ages_of_read(way, rule, node) for node in range(len(way)) if way[node] == READ and rule.word == "seldom"}
            ends = {(node, looks): (least_age(way, rule, looks, node), greatest_age(way, rule, looks, node))
                    for node in range(len(way)) for looks in CHOICES}
            for row in [row for many in (1, 2, 3, 4) for row in rows(way, many, 7)]:
                self.assertIs(is_row(way, row), True)
                node, moment = row[-1]
                file = file_at(way, rule, row, moment)
                for looks in CHOICES:
                    least, greatest = ends[node, looks]
                    self.assertTrue(least <= moment - file.latest(looks) and (
                        greatest is None or moment - file.latest(looks) <= greatest))
                if node in reads:
                    self.assertIn(moment - file.marks()["read"], reads[node])
                    self.assertEqual((reads[node].least(), reads[node].greatest()), ends[node, ("read",)])

    def test_papers_tell_the_ages(self):
        found = 0
        for way, rule, book in some_uses(100, seed=104):
            paper = paper_of(way, rule, book.remade(bound=100))
            if paper is not None:
                for node, looks, n in paper[1]:
                    self.assertGreaterEqual(n, greatest_age(way, rule, looks, node))
                for node, pairs in paper[2]:
                    self.assertTrue(ages_of_read(way, rule, node) <= Stretches(*pairs))
                    found += 1
        self.assertGreater(found, 20)

    def test_least_bounds_and_stays(self):
        for way, rule, book in some_uses(150, seed=105, ends=False):
            bound = least_bound(way, rule, book)
            if bound is not None:
                safe = [is_safe(way, rule, book.remade(bound=each)) for each in range(bound + 3)]
                self.assertEqual(safe, [False] * bound + [True] * 3)
            least, most = stay(way, rule, book)
            greatest = [greatest_age(way, rule, book.looks, node) for node in range(len(way))]
            youngest = min(least_age(way, rule, book.looks, node) for node in range(len(way)))
            oldest = None if None in greatest else max(greatest) + book.grain - 1
            self.assertEqual(least, 0 if oldest is None else max(0, book.threshold() - oldest))
            self.assertEqual(most, max(0, book.threshold() - youngest) + book.period - 1 + book.late)

    def test_books_that_delete_no_more(self):
        source = random.Random(106)
        many = {True: 0, False: 0}
        for way, rule, book in some_uses(250, seed=107, longest=3):
            one = some_book(source).remade(late=book.late, again=book.again, period=book.period)
            one = one.remade(bound=one.bound + source.choice([0, 4, 9]), looks=source.choice([one.looks, book.looks, MARKS]))
            many[one <= book] += 1
            self.assertIs(parting(one, book) is None, one <= book)
            if one <= book:
                paper = paper_of(way, rule, book)
                if paper is not None:
                    # What shows that the one that deletes more is safe shows it of the other one.
                    self.assertIs(is_safe(way, rule, one), True)
                    self.assertIs(is_paper(way, rule, one, paper), True)
                for fault in itertools.islice(faults(way, rule, one, 3), 30):
                    self.assertIs(is_fault(way, rule, book, fault), True)
                for mine, other in zip(stay(way, rule, book), stay(way, rule, one)):
                    self.assertLessEqual(mine, other)
        self.assertGreater(min(many.values()), 40)

    def test_partings_are_of_files(self):
        source = random.Random(108)
        found = 0
        for trial in range(300):
            one, other = some_book(source), some_book(source)
            told = parting(one, other)
            if told is not None:
                marks, held, at = told
                # A file with these marks, if deeds can bring them.
                if marks["changed"] == max(marks.values()):
                    file = File(Rule.never(), ("make",), at - 10 ** 6)
                    file.noted, file.held = dict(marks), held
                    self.assertEqual((one(file, at), other(file, at)), (True, False))
                    found += 1
        self.assertGreater(found, 50)

    def test_least_sets_make_safe(self):
        source = random.Random(109)
        found = 0
        for way, rule, book in some_uses(100, seed=110):
            menu = Menu(book, rule, *some_changes(source, 5))
            for chosen in least_sets(menu, way):
                made, ruling = menu.made(chosen)
                self.assertIsNotNone(paper_of(way, ruling, made))
                for index in chosen:
                    made, ruling = menu.made([other for other in chosen if other != index])
                    self.assertIs(is_safe(way, ruling, made), False)
                    found += 1
        self.assertGreater(found, 20)

    def test_texts_are_read_back(self):
        for way, rule, book in some_uses(150, seed=111, ends=False):
            self.assertEqual(read_way(show_way(way)), way)
            self.assertEqual(read_rule(show_rule(rule)), rule)
            self.assertEqual(read_book(show_book(book)), book)
            self.assertEqual([read_deed(show_deed(deed)) for deed in way.nodes()], way.nodes())
            again = read_way(show_way(way)), read_rule(show_rule(rule)), read_book(show_book(book))
            self.assertEqual((greatest_seen(*again), stay(*again)), (greatest_seen(way, rule, book), stay(way, rule, book)))

    def test_a_trial_leaves_the_session_as_it_was(self):
        for way, rule, book in some_uses(40, seed=112):
            session = Session(book, rule)
            session.keep("way", way)
            answers = session.safe("way"), session.unsafe_names(), session.book, session.rule

            def visitor(session):
                session.change("bound", 10 ** 12)
                session.rule = Rule.always()
                session.keep("way", WAY)
                session.safe("none")

            with self.assertRaises(NoName):
                session.within(visitor)
            self.assertEqual((session.safe("way"), session.unsafe_names(), session.book, session.rule), answers)


class ConventionsTest(unittest.TestCase):
    def test_what_is_told_is_new(self):
        way, rule, book = WAY, Rule.seldom(10), Book(bound=5)
        file, session = File(rule, MAKE, 0), Session(book, rule)
        session.keep("log", way)
        menu = Menu(book, rule, ("bound", 15), ("rule", Rule.always()), ("day", 9))
        calls = [lambda: way.nodes(), lambda: way.arrows(), lambda: Stretches((1, 5)).pairs(), lambda: backs(("unpack", 5)),
                 lambda: file.marks(), lambda: book.parts(), lambda: safe_looks(way, rule, Book(bound=15)),
                 lambda: session.names(), lambda: session.unsafe_names(), lambda: least_sets(menu, way),
                 lambda: parting(book, Book(bound=6))[0], lambda: list(faults(way, rule, book, 3)), lambda: menu.made([0])[0].parts()]
        for at, call in enumerate(calls):
            first = call()
            kept = dict(first) if isinstance(first, dict) else list(first)
            self.assertTrue(kept, at)
            first.clear()
            self.assertEqual(call(), kept)

    def test_what_is_handed_in_is_not_kept(self):
        nodes, arrows = [MAKE, READ], [(0, 1, 1, 7), (1, 1, 1, 7)]
        way = Way(nodes, arrows)
        nodes.pop()
        arrows.clear()
        self.assertEqual(way, WAY)
        chosen = [0]
        menu = Menu(Book(bound=5), Rule.always(), ("day", 9))
        menu.made(chosen)
        self.assertEqual(chosen, [0])
        self.assertEqual(Way((MAKE, READ), ((0, 1, 1, 7), (1, 1, 1, 7))), WAY)
        book = Book(bound=5)
        told = faults(WAY, Rule.always(), book, 2)
        first = next(told)
        book.bound = 10 ** 12
        # What is gone through is told by the book as it was at the beginning.
        self.assertEqual([first, *told], list(faults(WAY, Rule.always(), Book(bound=5), 2)))

    def test_books_stay_as_they_are(self):
        for way, rule, book in some_uses(40, seed=113):
            kept = book.twin()
            for call in (greatest_seen, is_safe, least_bound, safe_looks, stay, paper_of):
                found = call(way, rule, book)
                self.assertEqual(call(way, rule, book), found)
            is_paper(way, rule, book, found)
            parting(book, Book(bound=3))
            least_sets(Menu(book, rule, ("bound", 7)), way)
            Console(book, rule).say("rule never")
            show_book(book)
            self.assertEqual(book, kept)

    def test_equal_to_nothing_of_another_class(self):
        things = [WAY, Rule.always(), Book(bound=5), Stretches((1, 5)), File(Rule.always(), MAKE, 0)]
        for one, other in itertools.permutations(things + [5, "always", None, (), [], {}], 2):
            self.assertIs(one == other, False)
        for rule in RULES:
            self.assertEqual([other for other in RULES if other == rule], [rule])


if __name__ == "__main__":
    unittest.main()
