import itertools
import unittest

from agedfiles.books import Book, seen_age
from agedfiles.errors import NoBook, NoFile, NoMark, NoMoment
from agedfiles.files import File
from agedfiles.moments import Moment
from agedfiles.rules import Rule
from tests.helpers import Agreeable, Odd, caught, odd_objects
from tests.model import CHOICES, MARKS
from tests.test_deeds import wrong_looks

PLAIN = {"bound": 9, "looks": MARKS, "how": "above", "day": 1, "grain": 1, "spares": False, "late": 0, "again": True,
         "period": 1}
ORDER = list(PLAIN)
FAR = 10 ** 30
GOOD = {"bound": [0, 1, 10 ** 12], "looks": CHOICES, "how": ["above", "from"], "day": [1, 2, 10 ** 9],
        "grain": [1, 2, 10 ** 6], "spares": [True, False], "late": [0, 1, 10 ** 9], "again": [False, True],
        "period": [1, 2, 10 ** 9]}
NO_TRUTHS = [value for value in odd_objects() if not isinstance(value, bool)]
WRONG = {"bound": odd_objects() + [-1, 10 ** 12 + 1, FAR], "looks": wrong_looks(),
         "how": odd_objects() + ["", "Above", "below", "from ", "above from", ("from",), ["from"], b"from"],
         "day": odd_objects() + [0, -1, 10 ** 9 + 1], "grain": odd_objects() + [0, -1, 10 ** 6 + 1],
         "spares": NO_TRUTHS + [0, 1, "True"], "late": odd_objects() + [-1, 10 ** 9 + 1],
         "again": NO_TRUTHS + [0, 1, "False"], "period": odd_objects() + [0, -1, 10 ** 9 + 1]}
NO_PARTS = [value for value in odd_objects()] + ["", "Bound", "bound ", "part", "book", ("bound",), 0, b"bound", Moment(1)]


def other_parts():
    """A value of each part that is not that of the plain book."""
    return {"bound": 5, "looks": ("read", "changed"), "how": "from", "day": 60, "grain": 7, "spares": True, "late": 3,
            "again": False, "period": 11}


class PartsTest(unittest.TestCase):
    def test_what_a_book_has_if_nothing_else_is_said(self):
        book = Book(bound=9)
        self.assertEqual(list(book.parts().items()), list(PLAIN.items()))
        self.assertEqual([value.__class__ for value in book.parts().values()],
                         [int, tuple, str, int, int, bool, int, bool, int])

    def test_parts_that_are_told(self):
        book = Book(**other_parts())
        self.assertEqual(list(book.parts().items()), list(other_parts().items()))
        self.assertEqual([book.bound, book.looks, book.how, book.day, book.grain, book.spares, book.late, book.again,
                          book.period], list(other_parts().values()))
        self.assertEqual([book[part] for part in ORDER], list(other_parts().values()))

    def test_each_good_value(self):
        for part in ORDER:
            for value in GOOD[part]:
                with self.subTest(part=part, value=value):
                    made = Book(**{**PLAIN, part: value})
                    changed, told, assigned = Book(bound=9), Book(bound=9), Book(bound=9)
                    self.assertIsNone(changed.change(part, value))
                    told[part] = value
                    setattr(assigned, part, value)
                    for book in (made, changed, told, assigned, Book(bound=9).remade(**{part: value})):
                        self.assertEqual(list(book.parts().items()), list({**PLAIN, part: value}.items()))
                        self.assertIs(book[part].__class__, PLAIN[part].__class__)
                        self.assertEqual((book[part], getattr(book, part)), (value, value))

    def test_each_wrong_value(self):
        for part in ORDER:
            for value in WRONG[part]:
                with self.subTest(part=part, value=repr(value)):
                    self.assertEqual(caught(NoBook, lambda: Book(**{**PLAIN, part: value})).part, part)
                    book = Book(**other_parts())
                    for call in (lambda: book.change(part, value), lambda: book.__setitem__(part, value),
                                 lambda: setattr(book, part, value), lambda: book.remade(**{part: value})):
                        self.assertEqual(caught(NoBook, call).part, part)
                        self.assertEqual(book.parts(), other_parts())

    def test_the_first_wrong_part(self):
        for at, part in enumerate(ORDER):
            for second in ORDER[at + 1:]:
                parts = {second: None, **other_parts(), part: None, second: None}
                self.assertEqual(caught(NoBook, lambda: Book(**parts)).part, part)
                wrong = {second: None, part: None}
                self.assertEqual(caught(NoBook, lambda: Book(bound=9).remade(**wrong)).part, part)

    def test_bound_must_be_told_and_parts_are_named(self):
        for call in (lambda: Book(), lambda: Book(9), lambda: Book(looks=MARKS), lambda: Book(bound=9, other=1)):
            with self.assertRaises(TypeError):
                call()

    def test_no_part(self):
        for value in NO_PARTS:
            with self.subTest(value=repr(value)):
                book = Book(bound=9)
                for call in (lambda: book[value], lambda: book.__setitem__(value, 1), lambda: book.change(value, 1)):
                    self.assertIs(caught(NoBook, call).part, value)
                self.assertEqual(book.parts(), PLAIN)

    def test_names_of_arguments(self):
        book = Book(bound=9)
        book.change(part="bound", value=4)
        self.assertEqual(book.bound, 4)

    def test_parts_are_a_new_dict(self):
        book = Book(bound=9)
        book.parts()["bound"] = 5
        book.parts().clear()
        self.assertEqual(book.parts(), PLAIN)

    def test_not_gone_through(self):
        with self.assertRaises(TypeError):
            list(Book(bound=9))


class RemadeTest(unittest.TestCase):
    def test_remade(self):
        book = Book(**other_parts())
        made = book.remade(bound=7, again=True)
        self.assertEqual(list(made.parts().items()), list({**other_parts(), "bound": 7, "again": True}.items()))
        self.assertEqual(book.parts(), other_parts())
        made.bound = 1
        book.late = 77
        self.assertEqual((book.bound, made.late), (5, 3))
        same = book.remade()
        same.bound = 2
        self.assertEqual(book.bound, 5)

    def test_unknown_names_come_first(self):
        for parts in ({"other": 1}, {"bound": None, "other": 1}, {"other": 1, "bound": None}, {"part": 5}, {"Bound": 5},
                      {"bound": 5, "looks": ("read",), "threshold": 3}):
            self.assertEqual(caught(NoBook, lambda: Book(bound=9).remade(**parts)).part, "part")

    def test_twin(self):
        book = Book(**other_parts())
        twin = book.twin()
        self.assertEqual(list(twin.parts().items()), list(other_parts().items()))
        self.assertIs(twin == book, True)
        twin.bound = 1
        self.assertEqual(book.bound, 5)
        book.day = 4
        self.assertEqual(twin.day, 60)

    def test_careful(self):
        for bound in (0, 9, 10 ** 12):
            self.assertEqual(Book.careful(bound).parts(), {**PLAIN, "bound": bound, "spares": True})
        self.assertEqual(Book.careful(bound=3).bound, 3)

    def test_hasty(self):
        for bound in (0, 9, 10 ** 12):
            self.assertEqual(Book.hasty(bound).parts(),
                             {**PLAIN, "bound": bound, "looks": ("written",), "late": 60, "again": False})
        self.assertEqual(Book.hasty(bound=3).bound, 3)

    def test_careful_and_hasty_without_a_bound(self):
        for value in WRONG["bound"]:
            for call in (Book.careful, Book.hasty):
                self.assertEqual(caught(NoBook, call, value).part, "bound")

    def test_threshold(self):
        for bound, day in itertools.product((0, 1, 7, 10 ** 12), (1, 2, 86400, 10 ** 9)):
            self.assertEqual(Book(bound=bound, day=day).threshold(), (bound + 1) * day)
            self.assertEqual(Book(bound=bound, day=day, how="from", grain=5, late=3).threshold(), bound * day)


class EqualityTest(unittest.TestCase):
    def test_equal_parts(self):
        self.assertIs(Book(bound=9) == Book(**PLAIN), True)
        self.assertIs(Book(bound=9) != Book(**PLAIN), False)
        for part, value in other_parts().items():
            book = Book(bound=9)
            book[part] = value
            self.assertIs(Book(bound=9) == book, False)
            self.assertIs(Book(bound=9) != book, True)
            book[part] = PLAIN[part]
            self.assertIs(Book(bound=9) == book, True)

    def test_never_equal_to_other_classes(self):
        class Alike:
            told_parts = dict(PLAIN)
        for value in (PLAIN, None, 9, Alike(), Agreeable()):
            self.assertIs(Book(bound=9) == value, False)


def marked(read, written, changed):
    """A file of just these marks, made ahead of all of them."""
    file = File(Rule.always(), ("make",), -200)
    for moment in sorted({read, written, changed}):
        if moment == read:
            file.do(("read",), moment)
        if moment == written and moment != read:
            file.do(("write",), moment)
        elif moment == changed and moment != read:
            file.do(("rename",), moment)
    assert file.marks() == {"read": read, "written": written, "changed": changed}, file.marks()
    return file


class LookTest(unittest.TestCase):
    def test_just_below_at_and_above_the_bound(self):
        file = File(Rule.always(), ("make",), 100)
        for bound, day in itertools.product((0, 1, 9), (1, 3, 60)):
            above, since = Book(bound=bound, day=day), Book(bound=bound, day=day, how="from")
            for at in range(100, 101 + (bound + 2) * day):
                days = (at - 100) // day
                self.assertIs(above(file, at), days > bound)
                self.assertIs(since(file, at), days >= bound)
                self.assertIs(above(file, Moment(at)), days > bound)
            self.assertIs(above(file, 99), False)
            self.assertIs(since(file, 99), False)

    def test_marks_and_moments_below_0(self):
        for made, grain in itertools.product((-23, -20, -1, 0, 7), (1, 5, 7)):
            file = File(Rule.always(), ("make",), made)
            seen = made - made % grain
            for day in (1, 4):
                book = Book(bound=2, day=day, grain=grain)
                for at in range(made, made + 30):
                    self.assertIs(book(file, at), (at - seen) // day > 2, (made, grain, day, at))

    def test_the_latest_of_the_marks_it_sees(self):
        for marks in ((-30, -50, -40), (-50, -40, -30), (-40, -50, -30), (-50, -30, -30)):
            file = marked(*marks)
            for looks in CHOICES:
                latest = max(marks[MARKS.index(mark)] for mark in looks)
                book = Book(bound=9, looks=looks)
                self.assertEqual([book(file, at) for at in range(-30, 0)],
                                 [at - latest > 9 for at in range(-30, 0)])

    def test_each_mark_is_rounded(self):
        file = marked(-30, -50, -41)
        for looks, seen in ((("read",), -32), (("written",), -56), (("changed",), -48), (MARKS, -32)):
            book = Book(bound=9, looks=looks, grain=8)
            self.assertEqual([book(file, at) for at in range(-60, 0)], [at - seen > 9 for at in range(-60, 0)])

    def test_held_files(self):
        file = File(Rule.always(), ("make",), 0)
        for held, spares, found in ((False, False, True), (False, True, True), (True, False, True), (True, True, False)):
            file.held = held
            self.assertIs(Book(bound=0, spares=spares)(file, 1), found)
            self.assertIs(Book(bound=0, spares=spares)(file, 0), False)

    def test_parts_that_do_not_matter(self):
        file = File(Rule.always(), ("make",), 0)
        for late, again, period in ((0, True, 1), (10 ** 9, False, 10 ** 9)):
            book = Book(bound=3, late=late, again=again, period=period)
            self.assertEqual([book(file, at) for at in range(7)], [False] * 4 + [True] * 3)

    def test_a_changed_book(self):
        file = File(Rule.always(), ("make",), 0)
        book = Book(bound=3)
        self.assertIs(book(file, 4), True)
        book.bound = 4
        self.assertIs(book(file, 4), False)
        book["how"] = "from"
        self.assertIs(book(file, 4), True)

    def test_the_file_stays_as_it_is(self):
        file = File(Rule.always(), ("make",), 0)
        Book(bound=3)(file, 10)
        self.assertEqual(file, File(Rule.always(), ("make",), 0))

    def test_errors_in_their_order(self):
        file = File(Rule.always(), ("make",), 0)
        for book in (Book(bound=3), Book(bound=3, spares=True)):
            for value in odd_objects() + [Rule.always(), book, 5]:
                self.assertIs(caught(NoFile, book, value, None).value, value)
                self.assertIs(caught(NoFile, book, value, 5).value, value)
            for held in (False, True):
                file.held = held
                for value in odd_objects() + [FAR + 1, -FAR - 1, file]:
                    self.assertIs(caught(NoMoment, book, file, value).value, value)

    def test_names_of_arguments(self):
        self.assertIs(Book(bound=3)(file=File(Rule.always(), ("make",), 0), at=4), True)


class SeenAgeTest(unittest.TestCase):
    def test_whole_days(self):
        marks = {"read": 10, "written": -5, "changed": 3}
        for looks in CHOICES:
            for grain, day in itertools.product((1, 4, 7), (1, 3, 10)):
                book = Book(bound=3, looks=looks, grain=grain, day=day)
                seen = max(marks[mark] - marks[mark] % grain for mark in looks)
                for at in (-50, -5, 0, 9, 10, 11, 40):
                    self.assertEqual(seen_age(book, marks, at), (at - seen) // day)

    def test_below_0(self):
        marks = {"read": 10, "written": 0, "changed": 0}
        self.assertEqual([seen_age(Book(bound=1, day=4), marks, at) for at in (5, 6, 9, 10, 13, 14)], [-2, -1, -1, 0, 0, 1])

    def test_moments_and_integers(self):
        marks = {"read": Moment(10), "written": 5, "changed": Moment(7)}
        for at in (15, Moment(15)):
            found = seen_age(Book(bound=1), marks, at)
            self.assertEqual(found, 5)
            self.assertIs(found.__class__, int)
        self.assertEqual(marks, {"read": Moment(10), "written": 5, "changed": Moment(7)})
        self.assertEqual(seen_age(book=Book(bound=1, looks=("written",)), marks=marks, at=Moment(-20)), -25)

    def test_order_of_the_marks_does_not_matter(self):
        self.assertEqual(seen_age(Book(bound=1), {"changed": 3, "written": 2, "read": 1}, 9), 6)

    def test_the_book_deletes_by_it(self):
        file = marked(-30, -50, -41)
        for looks, grain, day, how in itertools.product(CHOICES, (1, 6), (1, 4), ("above", "from")):
            book = Book(bound=2, looks=looks, grain=grain, day=day, how=how)
            for at in range(-30, 10):
                age = seen_age(book, file.marks(), at)
                self.assertIs(book(file, at), age > 2 if how == "above" else age >= 2)

    def test_errors_in_their_order(self):
        good = {"read": 1, "written": 2, "changed": 3}
        for value in odd_objects() + [PLAIN, 9]:
            self.assertEqual(caught(NoBook, seen_age, value, None, None).part, "book")
        wrong = odd_objects() + [
            {"read": 1, "written": 2}, {**good, "other": 4}, {"read": 1, "written": 2, "Changed": 3}, {**good, "read": None},
            {**good, "written": True}, {**good, "changed": FAR + 1}, {**good, "read": -FAR - 1}, {**good, "read": "1"},
            {**good, "changed": Odd()}, {**good, "changed": Agreeable()}, list(good), list(good.items()), tuple(good),
            {0: 1, 1: 2, 2: 3}, "read", Moment(1)]
        for book in (Book(bound=1), Book(bound=1, looks=("written",))):
            for value in wrong:
                with self.subTest(value=repr(value)):
                    self.assertIs(caught(NoMark, seen_age, book, value, None).value, value)
        for value in odd_objects() + [FAR + 1, -FAR - 1, good]:
            self.assertIs(caught(NoMoment, seen_age, Book(bound=1), good, value).value, value)


if __name__ == "__main__":
    unittest.main()
