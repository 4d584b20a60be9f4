"""How long files stay behind their last deeds."""

from agedfiles.ages import greatest_ages, greatest_end, least_ages
from agedfiles.checks import check_use


def stay(way, rule, book):
    """The least and the greatest time from the last deed of a file to its being deleted."""
    check_use(way, rule, book)
    oldest = greatest_end(list(greatest_ages(way, rule, book.looks).values()))
    youngest = min([int(age) for age in list(least_ages(way, rule, book.looks).values())])
    # A look at the first moment at which it deletes may be any of a period, so
    # the next one comes at most period - 1 behind that moment.
    longest = time_left(book, youngest) + book.period - 1 + book.late
    if oldest is None:
        return (0, longest)
    # Rounding makes a mark seem up to grain - 1 older.
    return (time_left(book, oldest + book.grain - 1), longest)


def time_left(book, age):
    """The time from a deed to the first look that deletes, by the age that is seen at the deed."""
    return max(0, book.threshold() - age)
