import random
import unittest

from agedfiles.books import Book
from agedfiles.errors import Nested, NoBook, NoName, NoRule, NoWay, TooLong
from agedfiles.rules import Rule
from agedfiles.safety import is_safe
from agedfiles.sessions import Session
from agedfiles.ways import Way
from tests.helpers import caught, odd_objects
from tests.some_ways import MAKE, READ, RULES, WAY, WRITE, some_uses
from tests.test_changes import PARTS, WRONG

ALWAYS, NEVER = Rule.always(), Rule.never()
WRITES = Way([MAKE, WRITE], [(0, 1, 1, 9), (1, 1, 1, 9)])
HELD = Way([MAKE, READ], [(0, 1, 1, None, "held"), (1, 1, 1, None, "held")])
LETTERS = "abcdefghijklmnopqrstuvwxyz"
BAD_NAMES = odd_objects() + ["", "ninechars", "abcdefghi", "a" * 1000, "Log", "lOG", "LOG", "log1", "1", "log ", " log", "lo g", "-",
                             "lo_g", "log\n", "lo.g", "\xe4b", "\u0430", "a,b", b"log", ("log",), ["log"], 5]


class Bang(Exception):
    """An error that is none of the package."""


def new_session():
    return Session(Book(bound=10), ALWAYS)


def state(session):
    return ([(name, session[name]) for name in session.names()], len(session), session.book.parts(), session.rule.word,
            session.rule.after)


class WaysTest(unittest.TestCase):
    def test_kept_replaced_and_removed(self):
        for keep in (lambda session, name, way: session.keep(name, way), lambda session, name, way: session.__setitem__(name, way)):
            session = new_session()
            self.assertEqual((len(session), session.names(), "log" in session), (0, [], False))
            for name, way in (("log", WAY), ("a", WRITES), ("eightlet", HELD), ("log", WRITES), ("zz", WAY)):
                self.assertIsNone(keep(session, name, way))
                self.assertEqual(session[name], way)
                self.assertIs(name in session, True)
            self.assertEqual(session.names(), ["a", "eightlet", "log", "zz"])
            self.assertEqual(len(session), 4)
            self.assertIsNone(session.remove("eightlet"))
            self.assertEqual((session.names(), len(session), "eightlet" in session), (["a", "log", "zz"], 3, False))
            self.assertEqual(caught(NoName, session.remove, "eightlet").value, "eightlet")
            self.assertEqual((session["a"], session["log"], session["zz"]), (WRITES, WRITES, WAY))

    def test_signs(self):
        session = new_session()
        session["log"] = WAY
        self.assertEqual(session["log"], WAY)
        session["log"] = HELD
        self.assertEqual(session["log"], HELD)

    def test_names(self):
        session = new_session()
        for many in range(1, 9):
            for name in ("a" * many, "z" * many, LETTERS[:many]):
                session.keep(name, WAY)
                self.assertEqual(session[name], WAY)
                session.remove(name)
        for name in BAD_NAMES:
            self.assertIs(caught(NoName, session.keep, name, WAY).value, name)
            self.assertIs(caught(NoName, session.__setitem__, name, WAY).value, name)
            # It comes ahead of the others.
            self.assertIs(caught(NoName, session.keep, name, None).value, name)
        self.assertEqual(len(session), 0)

    def test_names_by_which_nothing_is_kept(self):
        session = new_session()
        session.keep("log", WAY)
        for name in BAD_NAMES + ["lo", "logs", "a"]:
            self.assertIs(name in session, False)
            for call in (session.__getitem__, session.remove, session.safe):
                self.assertIs(caught(NoName, call, name).value, name)
        self.assertEqual(session.names(), ["log"])

    def test_no_way(self):
        session = new_session()
        session.keep("log", WAY)
        for value in odd_objects() + ["make", WAY.nodes(), 5]:
            for call in (session.keep, session.__setitem__):
                for name in ("log", "new"):
                    error = caught(NoWay, call, name, value)
                    self.assertEqual(error.kind, "way")
                    self.assertIs(error.index, value)
        self.assertEqual(state(session)[:2], ([("log", WAY)], 1))

    def test_twenty_names(self):
        session = new_session()
        names = ["a" + letter for letter in LETTERS]
        for name in names[:20]:
            session.keep(name, WAY)
        for call in (session.keep, session.__setitem__):
            self.assertEqual(caught(TooLong, call, names[20], WAY).limit, 20)
            self.assertIs(caught(NoWay, call, names[20], None).index, None)
            self.assertEqual(caught(NoName, call, "Nine", None).value, "Nine")
        self.assertEqual(session.names(), names[:20])
        session.keep(names[3], HELD)
        session[names[4]] = WRITES
        self.assertEqual((len(session), session[names[3]], session[names[4]]), (20, HELD, WRITES))
        session.remove(names[0])
        session.keep(names[20], WAY)
        self.assertEqual(session.names(), names[1:21])

    def test_not_gone_through(self):
        with self.assertRaises(TypeError):
            list(new_session())

    def test_names_are_a_new_list(self):
        session = new_session()
        session.keep(name="log", way=WAY)
        session.names().append("more")
        self.assertEqual(session.names(), ["log"])
        session.remove(name="log")


class BookTest(unittest.TestCase):
    def test_errors_in_their_order(self):
        for value in odd_objects() + [Book(bound=1).parts(), "always", 5]:
            self.assertEqual(caught(NoBook, Session, value, value).part, "book")
            self.assertIs(caught(NoRule, Session, Book(bound=1), value).value, value)

    def test_books_are_neither_kept_nor_told(self):
        book = Book(bound=10)
        session = Session(book=book, rule=ALWAYS)
        book.bound = 3
        self.assertEqual(session.book, Book(bound=10))
        told = session.book
        told.bound = 4
        session.book.bound = 5
        self.assertEqual(session.book, Book(bound=10))
        for take in (session.take_book, lambda book: setattr(session, "book", book)):
            other = Book(bound=20)
            take(other)
            other.bound = 21
            told.bound = 22
            self.assertEqual(session.book, Book(bound=20))
            session.take_book(Book(bound=7))

    def test_set_in_both_ways(self):
        session = new_session()
        self.assertIsNone(session.take_book(book=Book(bound=5)))
        self.assertEqual(session.book, Book(bound=5))
        session.book = Book.hasty(6)
        self.assertEqual(session.book, Book.hasty(6))
        self.assertIsNone(session.take_rule(rule=NEVER))
        self.assertEqual(session.rule, NEVER)
        session.rule = Rule.seldom(9)
        self.assertEqual(session.rule, Rule.seldom(9))
        for value in odd_objects() + [Book(bound=1).parts(), "always"]:
            for call in (session.take_book, lambda value: setattr(session, "book", value)):
                self.assertEqual(caught(NoBook, call, value).part, "book")
            for call in (session.take_rule, lambda value: setattr(session, "rule", value)):
                self.assertIs(caught(NoRule, call, value).value, value)
        self.assertEqual((session.book, session.rule), (Book.hasty(6), Rule.seldom(9)))

    def test_change(self):
        session = new_session()
        book = session.book
        for part, values in PARTS.items():
            for value in values if part != "rule" else []:
                self.assertIsNone(session.change(part, value))
                book.change(part, value)
                self.assertEqual(session.book, book)
        for part, values in WRONG.items():
            for value in values:
                self.assertEqual(caught(NoBook, session.change, part, value).part, part)
        for part in odd_objects() + ["Bound", "", "rule"]:
            self.assertIs(caught(NoBook, session.change, part, 5).part, part)
        self.assertEqual(session.book, book)
        session.change(part="bound", value=3)
        self.assertEqual(session.book.bound, 3)

    def test_safe_and_unsafe_names(self):
        for way, rule, book in some_uses(30, seed=91):
            session = Session(book, rule)
            ways = dict(zip(["b", "a", "log", "aa"], [way, WAY, WRITES, HELD]))
            for name in ways:
                session.keep(name, ways[name])
            for bound in (book.bound, 3, 8, 20):
                session.change("bound", bound)
                book.bound = bound
                for name in ways:
                    self.assertIs(session.safe(name), is_safe(ways[name], rule, book))
                unsafe = sorted(name for name in ways if not is_safe(ways[name], rule, book))
                self.assertEqual(session.unsafe_names(), unsafe)
        self.assertIs(session.safe(name="log"), is_safe(WRITES, rule, book))
        session.unsafe_names().clear()
        self.assertEqual(session.unsafe_names(), unsafe)
        session.change("spares", True)
        session.change("looks", ("changed",))
        session.change("bound", 8)
        self.assertNotIn("aa", session.unsafe_names())
        session.rule = NEVER
        self.assertIn("a", session.unsafe_names())


def change_all(session):
    """Change all that a session has, in each way."""
    session.keep("new", HELD)
    session["log"] = HELD
    if "old" in session:
        session.remove("old")
    session.change("bound", 77)
    session.book = session.book.remade(late=5)
    session.take_book(session.book.remade(day=3))
    session.rule = NEVER
    session.take_rule(Rule.seldom(77))


class TrialTest(unittest.TestCase):
    def setUp(self):
        self.session = new_session()
        self.session.keep("log", WAY)
        self.session.keep("old", WRITES)
        self.before = state(self.session)

    def raise_in_block(self, error):
        with self.session.trial():
            change_all(self.session)
            raise error

    def raise_within(self, error):
        def visitor(session):
            change_all(session)
            raise error
        self.session.within(visitor)

    def test_what_is_done_stays(self):
        expected = new_session()
        expected.keep("log", WAY)
        expected.keep("old", WRITES)
        change_all(expected)
        with self.session.trial():
            change_all(self.session)
        self.assertEqual(state(self.session), state(expected))
        self.setUp()
        self.assertIsNone(self.session.within(change_all))
        self.assertEqual(state(self.session), state(expected))

    def test_an_error_takes_all_back(self):
        errors = (Bang(), NoName("x"), Nested(), ValueError(), KeyError("x"), KeyboardInterrupt(), GeneratorExit(), StopIteration())
        for run in (self.raise_in_block, self.raise_within):
            for error in errors:
                with self.assertRaises(error.__class__) as told:
                    run(error)
                self.assertIs(told.exception, error)
                self.assertEqual(state(self.session), self.before)
                self.assertIs(self.session.trying, False)
                self.assertEqual(self.session["log"], WAY)
        # All goes on as before.
        change_all(self.session)
        self.assertNotEqual(state(self.session), self.before)

    def test_one_thing_each(self):
        for change in (lambda session: session.keep("new", HELD), lambda session: session.keep("log", HELD),
                       lambda session: session.remove("old"), lambda session: session.change("grain", 7),
                       lambda session: session.change("looks", ("read",)), lambda session: session.take_book(Book(bound=0)),
                       lambda session: session.take_rule(NEVER), lambda session: setattr(session, "rule", Rule.seldom(3)),
                       lambda session: setattr(session, "book", Book(bound=0))):
            def visitor(session):
                change(session)
                self.assertNotEqual(state(session), self.before)
                raise Bang()
            caught(Bang, self.session.within, visitor)
            self.assertEqual(state(self.session), self.before)

    def test_errors_of_the_session_itself(self):
        for call in (lambda session: session.remove("none"), lambda session: session.keep("NO", WAY),
                     lambda session: session.change("bound", -1), lambda session: session.take_rule(None),
                     lambda session: session.keep("more", None), lambda session: session["none"]):
            def visitor(session):
                change_all(session)
                call(session)
            with self.assertRaises(ValueError):
                self.session.within(visitor)
            self.assertEqual(state(self.session), self.before)

    def test_an_error_that_is_caught_within(self):
        def visitor(session):
            session.change("bound", 33)
            try:
                session.remove("none")
            except NoName:
                session.keep("new", WAY)
        self.session.within(visitor)
        self.assertEqual((self.session.book.bound, self.session.names()), (33, ["log", "new", "old"]))
        with self.session.trial():
            try:
                raise Bang()
            except Bang:
                self.session.remove("old")
        self.assertEqual(self.session.names(), ["log", "new"])

    def test_what_within_returns(self):
        for value in odd_objects():
            self.assertIs(self.session.within(lambda session: value), value)
        self.assertIs(self.session.within(visitor=lambda session: session), self.session)

    def test_trying(self):
        self.assertIs(self.session.trying, False)
        with self.session.trial():
            self.assertIs(self.session.trying, True)
        self.assertIs(self.session.trying, False)
        self.assertIs(self.session.within(lambda session: session.trying), True)
        block = self.session.trial()
        self.assertIs(self.session.trying, False)
        with block:
            self.assertIs(self.session.trying, True)

    def test_nested(self):
        def visitor(session):
            session.change("bound", 55)
            for begin in (session.trial().__enter__, lambda: session.within(change_all)):
                caught(Nested, begin)
                self.assertIs(session.trying, True)
                self.assertEqual(session.book.bound, 55)
            # Only at its beginning a block is refused.
            session.trial()
        for run in (self.session.within, lambda visitor: visitor_in_block(self.session, visitor)):
            run(visitor)
            self.assertEqual(self.session.book.bound, 55)
            self.assertIs(self.session.trying, False)

    def test_nested_that_leaves_the_block(self):
        with self.assertRaises(Nested):
            with self.session.trial():
                change_all(self.session)
                with self.session.trial():
                    self.fail("begun")
        self.assertEqual(state(self.session), self.before)
        self.assertIs(self.session.trying, False)
        caught(Nested, self.session.within, lambda session: session.within(change_all))
        self.assertEqual(state(self.session), self.before)

    def test_one_block_twice(self):
        block = self.session.trial()
        with block:
            self.session.change("bound", 1)
        with self.assertRaises(Bang):
            with block:
                change_all(self.session)
                raise Bang()
        self.assertEqual(state(self.session)[0], self.before[0])
        self.assertEqual(self.session.book, Book(bound=1))
        with block:
            caught(Nested, block.__enter__)
            self.session.change("bound", 2)
        self.assertEqual(self.session.book, Book(bound=2))
        for trial in range(2):
            with self.assertRaises(Bang):
                with block:
                    self.session.remove("log")
                    self.session.change("bound", 9)
                    raise Bang()
            self.assertEqual((self.session.names(), self.session.book), (["log", "old"], Book(bound=2)))

    def test_a_block_made_ahead_of_changes(self):
        block = self.session.trial()
        self.session.change("bound", 4)
        self.session.remove("old")
        before = state(self.session)
        with self.assertRaises(Bang):
            with block:
                change_all(self.session)
                raise Bang()
        self.assertEqual(state(self.session), before)

    def test_blocks_that_are_left_without_an_error(self):
        def leave():
            for turn in range(3):
                with self.session.trial():
                    self.session.change("bound", turn)
                    if turn == 1:
                        return turn
        self.assertEqual(leave(), 1)
        self.assertEqual((self.session.book.bound, self.session.trying), (1, False))

    def test_two_sessions(self):
        other = new_session()
        with self.session.trial():
            with other.trial():
                other.change("bound", 3)
            self.assertIs(other.trying, False)
            caught(Bang, other.within, lambda session: (_ for _ in ()).throw(Bang()))
        self.assertEqual(other.book.bound, 3)

    def test_at_random(self):
        source = random.Random(92)
        names = ["a", "b", "log", "old"]
        for trial in range(300):
            before = state(self.session)
            fail = source.random() < 0.5

            def visitor(session):
                for step in range(source.randint(0, 6)):
                    name = source.choice(names)
                    kind = source.randrange(4)
                    if kind == 0:
                        session.keep(name, source.choice([WAY, WRITES, HELD]))
                    elif kind == 1 and name in session:
                        session.remove(name)
                    elif kind == 2:
                        part = source.choice([part for part in PARTS if part != "rule"])
                        session.change(part, source.choice(PARTS[part]))
                    elif kind == 3:
                        session.rule = source.choice(RULES)
                self.after = state(session)
                if fail:
                    raise Bang()

            try:
                self.session.within(visitor)
            except Bang:
                pass
            self.assertEqual(state(self.session), before if fail else self.after)


def visitor_in_block(session, visitor):
    with session.trial():
        visitor(session)


if __name__ == "__main__":
    unittest.main()
