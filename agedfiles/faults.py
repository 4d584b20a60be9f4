"""Faults: rows and looks by which a file in use is deleted."""

from agedfiles.checks import check_use
from agedfiles.errors import NoRow
from agedfiles.files import File
from agedfiles.kinds import is_moment, is_whole
from agedfiles.rows import check_ends, file_at, is_row, rows


def is_fault(way, rule, book, value):
    """Tell of any object whether it is a fault."""
    check_use(way, rule, book)
    if not isinstance(value, tuple) or len(value) != 3:
        return False
    row, at, then = value
    if not is_row(way, row) or not is_moment(at) or not is_moment(then):
        return False
    if not row[0][1] <= at <= then <= at + book.late:
        return False
    if not book(file_at(way, rule, row, at), at):
        return False
    if book.again and not book(file_at(way, rule, row, then), then):
        return False
    return in_use(way, row, then)


def in_use(way, row, moment):
    """Tell whether a file of the row is in use at the moment."""
    for one, other in zip(row, row[1:]):
        if one[1] <= moment < other[1]:
            return way.arrow(one[0], other[0])[4] != "anew"
    return False


def faults(way, rule, book, many):
    """Go through all faults of rows of at most many steps that begin below the grain."""
    check_use(way, rule, book)
    if not is_whole(many) or not 2 <= many <= 8:
        raise NoRow(many)
    check_ends(way)
    kept = book.twin()
    for steps in range(2, many + 1):
        for start in range(kept.grain):
            for row in rows(way, steps, start):
                yield from row_faults(way, rule, kept, row)


def row_faults(way, rule, book, row):
    """Go through all faults of a row."""
    parts = spans(way, rule, book, row)
    late = book.late
    goals = [(deletes if book.again else low, high) for low, deletes, high, word in parts if word != "anew"]
    for low, deletes, high, word in parts:
        for at in range(deletes, high):
            for first, end in goals:
                for then in range(max(int(first), at), min(int(end), at + late + 1)):
                    yield (row, at, then)


def spans(way, rule, book, row):
    """For each step but the last: its moment, the first one from it on at which a look deletes,
    the moment of the next step, and the word of the arrow to it."""
    file = File(rule, way[row[0][0]], row[0][1])
    found = []
    for one, other in zip(row, row[1:]):
        if file.last < one[1]:
            file.do(way[one[0]], one[1])
        word = way.arrow(one[0], other[0])[4]
        deletes = max(int(one[1]), book.due(file.latest(book.looks)))
        if word == "held" and book.spares:
            # As late as this, no look ahead of the next step deletes.
            deletes = other[1]
        found.append((one[1], deletes, other[1], word))
    return found
