import itertools
import random
import time
import unittest

from agedfiles.books import Book
from agedfiles.errors import NoBook, NoDeed, NoRule, NoText, NoWay
from agedfiles.rules import Rule
from agedfiles.texts import read_book, read_deed, read_rule, read_way, show_book, show_deed, show_rule, show_way
from agedfiles.ways import Way
from tests.helpers import caught, odd_objects
from tests.model import CHOICES
from tests.some_ways import MAKE, MIXED, READ, RENAME, TOUCH, WAY, WRITE, great_way, some_book, some_uses

ALWAYS, NEVER = Rule.always(), Rule.never()
FAR = 10 ** 9
BOOK = "looks read written; above 10; day 1; grain 1; held looked; late 0 again; period 1"
TEXT = "make; read; 0 > 1 1..7; 1 > 1 5.. held"
READERS = [(read_rule, show_rule), (read_deed, show_deed), (read_book, show_book), (read_way, show_way)]


def bent(source, text):
    """The text with another sign, one more or one less at a place, or two neighbours changed."""
    at = source.randrange(len(text))
    kind = source.choice(["put", "put", "drop", "swap", "other", "other", "twice"])
    sign = source.choice(list("0123456789 ;.>-+_,aA\n\t") + list(text))
    if kind == "put":
        return text[:at] + sign + text[at:]
    if kind == "drop":
        return text[:at] + text[at + 1:]
    if kind == "swap":
        return text[:at] + text[at + 1:at + 2] + text[at] + text[at + 2:]
    if kind == "other":
        return text[:at] + sign + text[at + 1:]
    return text[:at] + text[at] + text[at:]


class Texts(unittest.TestCase):
    def round(self, read, show, value, text):
        found = show(value)
        self.assertEqual(found, text)
        self.assertEqual(read(text), value)
        self.assertIs(read(text).__class__, value.__class__)
        self.assertEqual(show(read(text)), text)

    def no_text(self, read, *values):
        for value in values:
            self.assertIs(caught(NoText, read, value).value, value)

    def bend(self, read, show, texts, trials):
        """Texts that are bent are read only if they are the text of what is read."""
        source = random.Random(81)
        many = 0
        for text in texts:
            for trial in range(trials):
                other = bent(source, text)
                try:
                    value = read(other)
                except NoText as e:
                    self.assertIs(e.value, other)
                    continue
                self.assertEqual(show(value), other)
                many += 1
        return many


class RuleTest(Texts):
    def test_all_rules(self):
        self.round(read_rule, show_rule, ALWAYS, "always")
        self.round(read_rule, show_rule, NEVER, "never")
        for after in range(1, 2001):
            self.round(read_rule, show_rule, Rule.seldom(after), f"seldom {after}")

    def test_wrong_texts(self):
        self.no_text(read_rule, "Always", "ALWAYS", " always", "always ", "always 10", "never 0", "seldom", "seldom ", "seldom 0",
                     "seldom 2001", "seldom 010", "seldom  10", "seldom 10 ", " seldom 10", "seldom +10", "seldom -1",
                     "seldom 1_0", "seldom 1 0", "seldom\t10", "seldom 10\n", "\nseldom 10", "seldom 10.", "seldom ten", "often",
                     "seldom10", "Seldom 10", "seldom 0x1", "seldom \u0661", "seldom \u00b2", "seldom \uff11", "seldom 1e1")
        self.assertGreater(self.bend(read_rule, show_rule, ["always", "never", "seldom 10", "seldom 1999"], 500), 20)

    def test_no_rule(self):
        for value in odd_objects() + ["always", 5]:
            self.assertIs(caught(NoRule, show_rule, value).value, value)
        self.assertEqual(show_rule(rule=read_rule(text="never")), "never")


class DeedTest(Texts):
    def test_all_deeds(self):
        for deed in (MAKE, READ, WRITE, RENAME, TOUCH):
            self.round(read_deed, show_deed, deed, deed[0])
        for word in ("unpack", "setback"):
            for back in (1, 9, 10, 60, 100, 12345, FAR - 1, FAR):
                self.round(read_deed, show_deed, (word, back), f"{word} {back}")

    def test_wrong_texts(self):
        for word in ("unpack", "setback"):
            self.no_text(read_deed, word, word + " ", word + " 0", f"{word} {FAR + 1}", word + " 01", word + "  1", word + " 1 ",
                         " " + word + " 1", word + " +1", word + " -1", word + " 1_0", word + " 1 1", word.upper() + " 1",
                         word + " \u0661", word + " 1\n", word + "\t1", word + " 1; " + word + " 1")
        for word in ("make", "read", "write", "rename", "touch"):
            self.no_text(read_deed, word + " ", " " + word, word + " 1", word + " 0", word.upper(), word[:-1], word + "\n", word * 2,
                         word + "; " + word)
        self.assertGreater(self.bend(read_deed, show_deed, ["make", "unpack 60", "setback 1000000000"], 500), 20)

    def test_no_deed(self):
        for value in odd_objects() + ["make", ["make"], ("make", 5), ("unpack",), ("unpack", 0), ("unpack", True)]:
            self.assertIs(caught(NoDeed, show_deed, value).value, value)
        self.assertEqual(show_deed(deed=read_deed(text="unpack 7")), "unpack 7")


class BookTest(Texts):
    def test_example_of_the_document(self):
        self.round(read_book, show_book, Book(bound=10, looks=("read", "written")), BOOK)
        self.round(read_book, show_book, Book(bound=10, looks=("read", "written"), how="from"), BOOK.replace("above", "from"))
        self.round(read_book, show_book, Book(bound=10, looks=("read", "written"), spares=True), BOOK.replace("looked", "spared"))
        self.round(read_book, show_book, Book(bound=10, looks=("read", "written"), late=60, again=False),
                   BOOK.replace("0 again", "60"))

    def test_all_parts(self):
        for looks, how, spares, again in itertools.product(CHOICES, ("above", "from"), (False, True), (False, True)):
            for bound, day, grain, late, period in ((0, 1, 1, 0, 1), (10 ** 12, FAR, 10 ** 6, FAR, FAR), (5, 86400, 30, 7, 3600)):
                book = Book(bound=bound, looks=looks, how=how, day=day, grain=grain, spares=spares, late=late, again=again,
                            period=period)
                text = (f"looks {' '.join(looks)}; {how} {bound}; day {day}; grain {grain}; held {'looked spared'.split()[spares]}; "
                        f"late {late}{' again' * again}; period {period}")
                self.round(read_book, show_book, book, text)

    def test_numbers_beyond_their_bounds(self):
        self.no_text(read_book, BOOK.replace("above 10", f"above {10 ** 12 + 1}"), BOOK.replace("day 1", "day 0"),
                     BOOK.replace("day 1", f"day {FAR + 1}"), BOOK.replace("grain 1", "grain 0"), BOOK.replace("10", "-1"),
                     BOOK.replace("grain 1", f"grain {10 ** 6 + 1}"), BOOK.replace("late 0", f"late {FAR + 1}"),
                     BOOK.replace("period 1", "period 0"), BOOK.replace("period 1", f"period {FAR + 1}"))

    def test_wrong_texts(self):
        parts = BOOK.split("; ")
        for at in range(len(parts)):
            self.no_text(read_book, "; ".join(parts[:at] + parts[at + 1:]), "; ".join(parts[:at + 1] + parts[at:]))
            part = parts[at]
            for other in ("", " ", part + " ", " " + part, part.replace(" ", "  ", 1), part.replace(" ", "", 1), part.upper(),
                          part + " x", part + " 1", part[1:], part.split(" ")[0], part.title(), part + " again again"):
                self.no_text(read_book, "; ".join(parts[:at] + [other] + parts[at + 1:]))
        for order in itertools.permutations(range(7)):
            if order != tuple(range(7)) and order[0] in (0, 1, 6):
                self.no_text(read_book, "; ".join(parts[at] for at in order))
        for looks in ("", "written read", "read read", "Read", "read,written", "read changed written", "read written changed x"):
            self.no_text(read_book, BOOK.replace("read written", looks))
        for number in ("01", "+1", "1_0", "1.", "", "one", "0x1", "\u0661", "\u00b2", "\uff11", "-0", "1 0", "00"):
            self.no_text(read_book, BOOK.replace("10", number), BOOK.replace("late 0", "late " + number),
                         BOOK.replace("day 1", "day " + number), BOOK.replace("period 1", "period " + number))
        self.no_text(read_book, BOOK + ";", BOOK + "; ", "; " + BOOK, BOOK.replace("; ", ";"), BOOK.replace(";", ","), BOOK + "\n",
                     BOOK.replace("held looked", "held"), BOOK.replace("held looked", "held yes"), BOOK.replace(" again", "  again"),
                     BOOK.replace("0 again", "again 0"), BOOK.replace("0 again", "0 again "), BOOK.replace("above", "below"))
        self.assertGreater(self.bend(read_book, show_book, [BOOK, BOOK.replace("0 again", "60").replace("above", "from")], 2000), 100)

    def test_no_book(self):
        for value in odd_objects() + [BOOK, Book(bound=1).parts(), 5]:
            self.assertEqual(caught(NoBook, show_book, value).part, "book")
        self.assertEqual(show_book(book=read_book(text=BOOK)), BOOK)

    def test_a_book_of_its_own(self):
        read_book(BOOK).bound = 3
        self.assertEqual(read_book(BOOK).bound, 10)


class WayTest(Texts):
    def test_example_of_the_document(self):
        self.round(read_way, show_way, Way([MAKE, READ], [(0, 1, 1, 7), (1, 1, 5, None, "held")]), TEXT)

    def test_some_ways(self):
        self.round(read_way, show_way, Way([MAKE], []), "make")
        self.round(read_way, show_way, Way([("unpack", 60)], []), "unpack 60")
        self.round(read_way, show_way, MIXED,
                   "read; make; write; unpack 4; 2 > 0 2..3 held; 1 > 0 1..2; 0 > 2 1..1; 0 > 0 2..4 held; 0 > 3 1..2 anew; "
                   "3 > 2 2..2; 2 > 1 3..3 anew")
        for way, rule, book in some_uses(200, seed=82, ends=False):
            self.assertEqual(read_way(show_way(way)), way)
            self.assertEqual(read_book(show_book(book)), book)
        for seed in range(5):
            self.assertEqual(read_way(show_way(great_way(seed))), great_way(seed))

    def test_as_much_as_there_can_be(self):
        nodes = [("setback", FAR)] * 11 + [("unpack", FAR)]
        arrows = [(11, goal, FAR, FAR, "held") for goal in range(11)] + [(start, goal, 1, None, "held") for start in range(3)
                                                                         for goal in range(9)] + [(10, 11, 5, 5, "anew"), (10, 0, 1, 1)]
        text = show_way(Way(nodes, arrows))
        self.round(read_way, show_way, Way(nodes, arrows), text)
        self.no_text(read_way, "touch; " + text, text + "; 10 > 1 1..1")

    def test_wrong_texts(self):
        for other in ("1..", "1..7", "01..7", "1..07", "+1..7", "1..+7", "1...7", "1.7", "1 .. 7", "1.. 7", "1 ..7", "..7", "7..1",
                      "0..7", "1..0", f"1..{FAR + 1}", f"{FAR + 1}..", "1_0..70", "\u0661..7", "1..\u0667", "1..7..8", "1..7 ", "..",
                      "1..7 Held", "1..7 used", "1..7  held", "1..7 held ", "1..7 held held", "1..7 anew", "1..x", "1.."):
            text = TEXT.replace("1..7", other)
            if other in ("1..", "1..7"):
                self.assertEqual(show_way(read_way(text)), text)
            else:
                self.no_text(read_way, text)
        for other in ("0 >1", "0> 1", "0>1", "00 > 1", "0 > 01", "0  > 1", "0 >  1", "0 < 1", "0 > 2", "2 > 1", "-0 > 1", "0 > -1",
                      "0 - 1", "0 1", "0 > 1 >", "0 > ", "> 1", "0 -> 1", "\u0660 > 1", "1 > 1"):
            self.no_text(read_way, TEXT.replace("0 > 1", other))
        for other in ("make;", "make;  ", "make ; ", "make, ", " make; ", "make 1; ", "Make; ", "", "make; ; ", "; make; ",
                      "unpack; ", "unpack 0; ", "unpack 01; ", "make\n; "):
            self.no_text(read_way, TEXT.replace("make; ", other))
        self.no_text(read_way, "make; 0 > 1 1..7; read", "0 > 1 1..7; make; read", TEXT + ";", TEXT + "; ", TEXT + "\n", "; ", ";",
                     TEXT + "; 0 > 1 1..7", TEXT + "; 1 > 1 1..1", TEXT + "; touch", "make; read", "read", "read; 0 > 0 1..1",
                     "make; make; 0 > 1 1..7", "make; 0 > 0 1..7", "make; 0 > 0 1..7 anew", "make; " * 12 + "make",
                     "make; read; 0 > 1 1..7 anew", "make; read; read; 0 > 1 1..7; 2 > 2 1..1")
        many = self.bend(read_way, show_way, [TEXT, "unpack 60; setback 4; 0 > 1 1..; 1 > 0 3..9 anew; 0 > 0 2..2 anew"], 3000)
        self.assertGreater(many, 200)

    def test_no_way(self):
        for value in odd_objects() + [TEXT, [MAKE], 5]:
            error = caught(NoWay, show_way, value)
            self.assertEqual(error.kind, "way")
            self.assertIs(error.index, value)
        self.assertEqual(show_way(way=read_way(text=TEXT)), TEXT)


class AllTest(Texts):
    def test_objects_that_are_no_texts(self):
        for read, show in READERS:
            self.no_text(read, *odd_objects(), 5, 10 ** 30, ALWAYS, WAY, Book(bound=1), MAKE, ["make"], b"always", "")

    def test_each_reader_reads_its_own_texts_alone(self):
        # A deed that makes is a way, too.
        texts = ["seldom 10", "setback 60", BOOK, TEXT]
        for at, (read, show) in enumerate(READERS):
            self.assertEqual(show(read(texts[at])), texts[at])
            self.no_text(read, *texts[:at], *texts[at + 1:])

    def test_great_texts(self):
        began = time.time()
        for text in ("9" * 10 ** 5, "; " * 10 ** 5, " " * 10 ** 5, "make; " * 10 ** 5, "0 > 1 1..7; " * 10 ** 4, ">" * 10 ** 5):
            for read, show in READERS:
                self.no_text(read, text, "seldom " + text, "unpack " + text, BOOK.replace("10", text), TEXT.replace("7", text))
        self.assertLess(time.time() - began, 10)

    def test_books_at_random(self):
        source = random.Random(83)
        for trial in range(300):
            book = some_book(source)
            self.assertEqual(read_book(show_book(book)), book)


if __name__ == "__main__":
    unittest.main()
