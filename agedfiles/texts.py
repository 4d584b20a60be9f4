"""Texts of rules, deeds, books and ways, written and read back."""

from agedfiles.books import Book, check_book
from agedfiles.checks import check_rule, check_way
from agedfiles.deeds import is_deed
from agedfiles.errors import NoBook, NoDeed, NoRule, NoText, NoWay
from agedfiles.rules import Rule
from agedfiles.ways import Way

DIGITS = "0123456789"

# No number in a text is greater than 10 ** 12.
MOST_DIGITS = 13

# How many parts the text of a book has, and how many words at least each one of them.
BOOK_PARTS = 7
LEAST_WORDS = 2

# The readers take what stands where it should stand. Whether it is the text that
# is wanted, with nothing else between, is told by writing what they have read.


def show_rule(rule):
    """The text of a rule."""
    check_rule(rule)
    if rule.after is None:
        return rule.word
    return f"{rule.word} {rule.after}"


def read_rule(text):
    """The rule of a text."""
    check_text(text)
    if text == "always":
        return Rule.always()
    if text == "never":
        return Rule.never()
    word, blank, digits = text.partition(" ")
    if word != "seldom":
        raise NoText(text)
    try:
        return Rule.seldom(number_in(digits))
    except NoRule:
        raise NoText(text) from None


def show_deed(deed):
    """The text of a deed."""
    if not is_deed(deed):
        raise NoDeed(deed)
    return " ".join([str(part) for part in deed])


def read_deed(text):
    """The deed of a text."""
    check_text(text)
    deed = deed_in(text)
    if not is_deed(deed):
        raise NoText(text)
    return deed


def show_book(book):
    """The text of a book."""
    check_book(book)
    looks = " ".join(book.looks)
    held = "spared" if book.spares else "looked"
    again = " again" if book.again else ""
    parts = [
        f"looks {looks}", f"{book.how} {book.bound}", f"day {book.day}", f"grain {book.grain}",
        f"held {held}", f"late {book.late}{again}", f"period {book.period}",
    ]
    return "; ".join(parts)


def read_book(text):
    """The book of a text."""
    check_text(text)
    parts = [part.split(" ") for part in text.split("; ")]
    if len(parts) != BOOK_PARTS or not all([len(words) >= LEAST_WORDS for words in parts]):
        raise NoText(text)
    try:
        book = book_of(parts)
    except NoBook:
        raise NoText(text) from None
    if show_book(book) != text:
        raise NoText(text)
    return book


def book_of(parts):
    """The book that is told by the words of the parts of a text."""
    looks, bound, day, grain, held, late, period = parts
    return Book(
        bound=number_in(bound[1]), looks=tuple(looks[1:]), how=bound[0], day=number_in(day[1]),
        grain=number_in(grain[1]), spares=held[1] == "spared", late=number_in(late[1]),
        again=late[-1] == "again", period=number_in(period[1]),
    )


def show_way(way):
    """The text of a way."""
    check_way(way)
    nodes = [show_deed(deed) for deed in way.nodes()]
    arrows = [show_arrow(arrow) for arrow in way.arrows()]
    return "; ".join(nodes + arrows)


def show_arrow(arrow):
    """The text of an arrow with five parts."""
    start, goal, least, most, word = arrow
    end = "" if most is None else str(most)
    behind = f" {word}" if word else ""
    return f"{start} > {goal} {least}..{end}{behind}"


def read_way(text):
    """The way of a text."""
    check_text(text)
    parts = text.split("; ")
    nodes = [deed_in(part) for part in parts if ">" not in part]
    arrows = [arrow_in(part) for part in parts if ">" in part]
    try:
        way = Way(nodes, arrows)
    except NoWay:
        raise NoText(text) from None
    if show_way(way) != text:
        raise NoText(text)
    return way


def check_text(value):
    """Raise an error unless the value is a text."""
    if not isinstance(value, str):
        raise NoText(value)


def number_in(text):
    """The integer that a text tells by digits without zeros ahead, None if it tells none."""
    if not 1 <= len(text) <= MOST_DIGITS or not all([sign in DIGITS for sign in text]):
        return None
    if text[0] == "0" and text != "0":
        return None
    return int(text)


def deed_in(text):
    """What stands where a deed and its back should stand."""
    words = text.split(" ")
    behind = [number_in(word) for word in words[1:]]
    return (words[0], *behind)


def arrow_in(text):
    """What stands where an arrow should stand, None where too few or too many words do."""
    words = text.split(" ")
    if len(words) not in (4, 5):
        return None
    least, points, most = words[3].partition("..")
    ends = (number_in(words[0]), number_in(words[2]), number_in(least), number_in(most))
    return (*ends, words[4]) if len(words) == 5 else ends
