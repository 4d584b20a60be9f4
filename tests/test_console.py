import random
import unittest

from agedfiles.books import Book
from agedfiles.console import Console
from agedfiles.errors import AgeError, NoBook, NoCommand, NoName, NoRule, NoText, TooLong
from agedfiles.rules import Rule
from agedfiles.safety import greatest_seen, is_safe, least_bound
from agedfiles.sessions import Session
from agedfiles.stays import stay
from agedfiles.texts import show_book, show_rule, show_way
from agedfiles.ways import Way
from tests.helpers import caught, odd_objects
from tests.some_ways import MAKE, READ, RULES, WAY, some_uses
from tests.test_sessions import BAD_NAMES, LETTERS, state

TEXT = "make; read; 0 > 1 1..7; 1 > 1 1..7"
HELD_TEXT = "make; read; 0 > 1 1.. held; 1 > 1 1.. held"
BOOK = "looks read written; above 10; day 1; grain 1; held looked; late 0 again; period 1"
NAMED = ("remove", "show", "safe", "least", "stay", "seen")


def new_console():
    console = Console(Book(bound=15), Rule.seldom(10))
    console.say("keep log " + TEXT)
    return console


class SayTest(unittest.TestCase):
    def setUp(self):
        self.console = new_console()

    def check(self, *rows):
        for row, answer in rows:
            self.assertEqual(self.console.say(row), answer, row)

    def test_example_of_the_document(self):
        console = Console(Book(bound=15), Rule.seldom(10))
        found = [console.say("keep log make; read; 0 > 1 1..7; 1 > 1 1..7"), console.say("safe log"), console.say("seen log"),
                 console.say("stay log")]
        self.assertEqual(found, ["ok", "yes", "15", "7 16"])

    def test_ways(self):
        self.check(("names", "log"), ("show log", TEXT), ("keep a " + HELD_TEXT, "ok"), ("names", "a log"), ("show a", HELD_TEXT),
                   ("keep zzzzzzzz make", "ok"), ("names", "a log zzzzzzzz"), ("remove log", "ok"), ("names", "a zzzzzzzz"),
                   ("keep a make", "ok"), ("show a", "make"), ("remove a", "ok"), ("remove zzzzzzzz", "ok"), ("names", "-"))
        self.assertEqual(len(self.console.session), 0)

    def test_books_and_rules(self):
        self.check(("book " + BOOK, "ok"), ("book", BOOK), ("rule", "seldom 10"), ("rule never", "ok"), ("rule", "never"),
                   ("rule seldom 2000", "ok"), ("rule", "seldom 2000"), ("rule always", "ok"), ("rule", "always"))
        self.assertEqual(self.console.session.book, Book(bound=10, looks=("read", "written")))
        self.assertEqual(self.console.session.rule, Rule.always())

    def test_answers(self):
        self.check(("keep held " + HELD_TEXT, "ok"), ("safe held", "no"), ("least held", "none"), ("seen held", "none"),
                   ("stay held", "7 16"), ("book " + BOOK.replace("looked", "spared"), "ok"), ("safe held", "yes"),
                   ("least held", "0"), ("seen held", "-1"), ("safe log", "no"), ("least log", "15"), ("seen log", "15"),
                   ("rule never", "ok"), ("least log", "none"), ("stay log", "0 11"),
                   ("book " + BOOK.replace("period 1", "period 60").replace("0 again", "60"), "ok"), ("stay log", "0 130"))

    def test_answers_for_some_uses(self):
        for way, rule, book in some_uses(60, seed=95, ends=False):
            console = Console(book, rule)
            self.assertEqual(console.say("keep some " + show_way(way)), "ok")
            least, seen = least_bound(way, rule, book), greatest_seen(way, rule, book)
            for row, answer in (("show some", show_way(way)), ("book", show_book(book)), ("rule", show_rule(rule)),
                                ("safe some", "yes" if is_safe(way, rule, book) else "no"),
                                ("least some", "none" if least is None else str(least)),
                                ("seen some", "none" if seen is None else str(seen)),
                                ("stay some", "%d %d" % stay(way, rule, book))):
                found = console.say(row)
                self.assertEqual(found, answer)
                self.assertIs(found.__class__, str)

    def test_names_like_words(self):
        for name in NAMED + ("keep", "names", "book", "rule"):
            self.check((f"keep {name} " + TEXT, "ok"), ("show " + name, TEXT), ("seen " + name, "15"), ("remove " + name, "ok"))

    def test_the_session_beside_the_rows(self):
        session = self.console.session
        self.assertIsInstance(session, Session)
        self.assertIs(self.console.session, session)
        session.keep("more", Way([MAKE], []))
        session.change("bound", 99)
        session.rule = Rule.never()
        self.check(("show more", "make"), ("rule", "never"), ("book", show_book(Book(bound=99))))
        self.check(("keep new make", "ok"))
        self.assertIn("new", session)
        with session.trial():
            self.check(("remove new", "ok"))
        self.assertNotIn("new", session)

    def test_two_consoles(self):
        other = new_console()
        self.check(("keep more make", "ok"), ("rule never", "ok"), ("book " + BOOK, "ok"), ("remove log", "ok"))
        self.assertEqual([other.say(row) for row in ("names", "rule", "book")], ["log", "seldom 10", show_book(Book(bound=15))])

    def test_books_that_were_handed_in(self):
        book = Book(bound=15)
        console = Console(book=book, rule=Rule.always())
        book.bound = 3
        self.assertEqual(console.session.book, Book(bound=15))
        self.assertEqual(console.say(row="rule"), "always")

    def test_errors_at_the_beginning(self):
        for value in odd_objects():
            self.assertEqual(caught(NoBook, Console, value, value).part, "book")
            self.assertIs(caught(NoRule, Console, Book(bound=1), value).value, value)


class ErrorTest(unittest.TestCase):
    def setUp(self):
        self.console = new_console()
        self.before = state(self.console.session)

    def fails(self, error, row, value=None):
        """The row raises this error with the value, the row itself if there is none, and nothing changes."""
        told = caught(error, self.console.say, row)
        self.assertIs(told.__class__, error)
        if value is None:
            self.assertIs(told.value, row)
        else:
            self.assertEqual(told.value, value)
        self.assertEqual(state(self.console.session), self.before)

    def test_objects_that_are_no_texts(self):
        for value in odd_objects() + [5, b"names", ["names"], ("names",), WAY, Book(bound=1)]:
            self.fails(NoCommand, value)

    def test_unknown_words(self):
        for row in ("5", "", " ", "  ", "log", "Names", "NAMES", "name", "names ", "names log", "names -", "names  ", " names",
                    "books", "Book", " book", "rules", " rule", "\tbook", "list", "quit log", "help", "keeps log make", "book\n",
                    "Keep log make", "names\n", "rule\n", "least_bound log", "; names", "-", "safe\tlog", "threshold log"):
            self.fails(NoCommand, row)

    def test_rows_with_a_name_alone(self):
        for word in NAMED:
            for row in (word, word + " ", word + "  ", word + "  log", " " + word + " log", word + " log ", word + " log log",
                        word + " log  ", word + "log", word.upper() + " log", word + " log\n", word + " lo-g", word + " LOG",
                        word + " log make", word + " nolog nolog", word + " nolog ", word + "\tlog", word + " log1"):
                self.fails(NoCommand, row)

    def test_names_that_are_none(self):
        for name in [name for name in BAD_NAMES if isinstance(name, str) and name.isascii()]:
            for word in NAMED:
                self.fails(NoCommand, f"{word} {name}")
            if " " not in name:
                # It comes ahead of what follows.
                self.fails(NoCommand, f"keep {name} {TEXT}")
                self.fails(NoCommand, f"keep {name} no way")
                self.fails(NoCommand, f"keep {name}")

    def test_keep_without_a_text(self):
        for row in ("keep", "keep ", "keep  ", "keep log", "keep new", "keep  log make", " keep log make", "keep ; make", "keep make;"):
            self.fails(NoCommand, row)

    def test_names_by_which_nothing_is_kept(self):
        for name in ("a", "lo", "logs", "eightlet"):
            for word in NAMED:
                self.fails(NoName, f"{word} {name}", name)

    def test_texts_that_are_none(self):
        for text in ("make; ", " make", "make ", "Make", "read", "log make", TEXT + " ", " " + TEXT, TEXT.replace("1..7", "7..1"), "-",
                     "always", BOOK):
            self.fails(NoText, "keep log " + text, text)
            self.fails(NoText, "keep new " + text, text)
            self.fails(NoText, "keep rule " + text, text)
        for text in ("Always", " always", "always ", "always always", "seldom", "seldom 0", "seldom 2001", "log", BOOK, TEXT):
            self.fails(NoText, "rule " + text, text)
        for text in (" " + BOOK, BOOK + " ", BOOK.replace("above", "below"), BOOK.replace("; ", ";"), "log", "always", TEXT,
                     BOOK.replace("day 1", "day 0")):
            self.fails(NoText, "book " + text, text)

    def test_twenty_names(self):
        for letter in LETTERS[:19]:
            self.assertEqual(self.console.say(f"keep {letter} make"), "ok")
        self.before = state(self.console.session)
        self.assertEqual(caught(TooLong, self.console.say, "keep new make").limit, 20)
        self.assertEqual(state(self.console.session), self.before)
        self.fails(NoText, "keep new mak", "mak")
        self.fails(NoCommand, "keep NEW make")
        self.assertEqual(self.console.say("keep log make; read; 0 > 1 1..2"), "ok")
        self.assertEqual(self.console.say("show log"), "make; read; 0 > 1 1..2")
        self.assertEqual(len(self.console.say("names").split(" ")), 20)

    def test_rows_at_random(self):
        source = random.Random(96)
        words = ["keep", "remove", "show", "names", "book", "rule", "safe", "least", "stay", "seen", "log", "new", "make;", "make",
                 "always", "seldom", "10", "", "Log", "read; 0 > 1 1..7", TEXT, BOOK]
        answers = 0
        for trial in range(8000):
            row = " ".join(source.choice(words) for word in range(source.choice([1, 2, 2, 2, 3, 3, 4])))
            before = state(self.console.session)
            try:
                self.assertIsInstance(self.console.say(row), str)
                answers += 1
            except AgeError as e:
                self.assertIn(e.__class__, (NoCommand, NoName, NoText))
                self.assertEqual(state(self.console.session), before)
        self.assertGreater(answers, 100)

    def test_rules_of_all_kinds(self):
        for rule in RULES:
            console = Console(Book(bound=1), rule)
            self.assertEqual(console.say("rule"), show_rule(rule))
            self.assertEqual(console.say("names"), "-")
            self.assertEqual(console.say("keep a " + show_way(Way([MAKE, READ], [(0, 1, 1, 1)]))), "ok")


if __name__ == "__main__":
    unittest.main()
