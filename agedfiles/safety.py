"""Whether a book can delete a file in use, and how to set it so that it cannot."""

from agedfiles.ages import greatest_ages, greatest_end
from agedfiles.checks import check_use
from agedfiles.stretches import sum_of_ends

# All choices of marks, those of fewer marks first.
CHOICES = (
    ("read",), ("written",), ("changed",),
    ("read", "written"), ("read", "changed"), ("written", "changed"),
    ("read", "written", "changed"),
)


def is_counted(book, link):
    """Tell whether an arrow counts for a book."""
    word = link[4]
    if word == "held":
        return not book.spares
    if word == "anew":
        return book.late >= 1 and not book.again
    return True


def greatest_seen(way, rule, book):
    """The greatest age in seconds that is seen ahead of arrows that count: None if there
    is none, -1 if no arrow counts."""
    check_use(way, rule, book)
    links = [link for link in way.arrows() if is_counted(book, link)]
    if not links:
        return -1
    ages = greatest_ages(way, rule, book.looks)
    end = greatest_end([sum_of_ends(ages[link[0]], link[3]) for link in links])
    # The last moment ahead of the next deed is 1 less, and rounding brings at
    # most grain - 1.
    return sum_of_ends(end, book.grain - 2)


def is_safe(way, rule, book):
    """Tell whether there is no fault."""
    seen = greatest_seen(way, rule, book)
    return seen is not None and seen < book.threshold()


def least_bound(way, rule, book):
    """The least bound with which the book is safe, None if there is none."""
    seen = greatest_seen(way, rule, book)
    if seen is None:
        return None
    # No age comes near the greatest bound, so this one is always a bound.
    if book.how == "above":
        return max(0, seen // book.day)
    return seen // book.day + 1


def safe_looks(way, rule, book):
    """The list of the choices of marks with which, and with no part of which, the book is safe."""
    check_use(way, rule, book)
    found = []
    for looks in CHOICES:
        spare = [less for less in found if all([mark in looks for mark in less])]
        if not spare and is_safe(way, rule, book.remade(looks=looks)):
            found.append(looks)
    return found
