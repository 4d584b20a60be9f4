"""Checks of ways and rules that are handed in."""

from agedfiles.books import check_book
from agedfiles.errors import NoRule, NoWay
from agedfiles.rules import Rule
from agedfiles.ways import Way


def check_way(value):
    """Raise an error unless the value is a way."""
    if not isinstance(value, Way):
        raise NoWay("way", value)


def check_rule(value):
    """Raise an error unless the value is a rule."""
    if not isinstance(value, Rule):
        raise NoRule(value)


def check_use(way, rule, book):
    """Raise an error unless these are a way, a rule and a book."""
    check_way(way)
    check_rule(rule)
    check_book(book)
