"""Changes of a book and a rule, and the least sets of them that make the book safe."""

from agedfiles.books import check_book, is_part, is_worth
from agedfiles.checks import check_rule, check_way
from agedfiles.errors import NoChange, NoWay
from agedfiles.kinds import is_list
from agedfiles.rules import Rule
from agedfiles.safety import is_safe
from agedfiles.ways import is_place

MOST_CHANGES = 6


class Menu:
    """A book and a rule, with changes of which some can be chosen; it is never changed."""

    def __init__(self, book, rule, *changes):
        check_book(book)
        check_rule(rule)
        if len(changes) > MOST_CHANGES:
            raise NoChange(None)
        for index, change in enumerate(changes):
            if not is_change(change) or change[0] in [earlier[0] for earlier in changes[:index]]:
                raise NoChange(index)
        self.plain_book = book.twin()
        self.plain_rule = rule
        self.changes = changes

    def made(self, chosen):
        """The book and the rule with the changes of the chosen indexes."""
        if not is_choice(chosen, self.changes):
            raise NoChange(None)
        book = self.plain_book.twin()
        rule = self.plain_rule
        for index in chosen:
            part, worth = self.changes[index]
            if part == "rule":
                rule = worth
            else:
                book.change(part, worth)
        return (book, rule)

    def __len__(self):
        return len(self.changes)


def is_change(value):
    """Tell of any object whether it is a part and a value of it, or "rule" and a rule."""
    if not isinstance(value, tuple) or len(value) != 2:
        return False
    part, worth = value
    if isinstance(part, str) and part == "rule":
        return isinstance(worth, Rule)
    return is_part(part) and is_worth(part, worth)


def is_choice(value, changes):
    """Tell of any object whether it is a list of indexes of changes, ascending."""
    if not is_list(value) or not all([is_place(index, changes) for index in value]):
        return False
    return all([one < other for one, other in zip(value, value[1:])])


def least_sets(menu, *ways):
    """The list of all least sets of indexes that make the book safe for all the ways."""
    if not isinstance(menu, Menu):
        raise NoChange(None)
    for way in ways:
        check_way(way)
    if len(ways) == 0:
        raise NoWay("way", None)
    found = []
    for chosen in choices(len(menu)):
        if not has_part(chosen, found) and is_safe_choice(menu, chosen, ways):
            found.append(chosen)
    return found


def choices(many):
    """The lists of ascending indexes below a number: the shorter ones first, then in their order."""
    found = [[]]
    longest = [[]]
    for length in range(many):
        longest = [[*less, index] for less in longest for index in range(many) if less == [] or less[-1] < index]
        found = found + longest
    return found


def has_part(chosen, found):
    """Tell whether one of the lists found has only indexes that are chosen."""
    return any([all([index in chosen for index in less]) for less in found])


def is_safe_choice(menu, chosen, ways):
    """Tell whether the book with the chosen changes is safe for all the ways."""
    book, rule = menu.made(chosen)
    for way in ways:
        if not is_safe(way, rule, book):
            return False
    return True
