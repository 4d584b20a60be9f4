"""Files by which one book parts from another one."""

from agedfiles.books import check_book
from agedfiles.deeds import MARKS


def parting(one, other):
    """Marks, whether held, and a moment at which the first book deletes such a file and the
    other one does not; None if there are none."""
    check_book(one)
    check_book(other)
    if one <= other:
        return None
    if other.spares and not one.spares:
        return (dict_of(0, ()), True, one.threshold())
    unseen = [mark for mark in other.looks if mark not in one.looks]
    if unseen:
        # Rounded by the other book, this moment stays as it is.
        at = up_to_multiple(one.threshold(), other.grain)
        return (dict_of(at, unseen), False, at)
    mark = parting_mark(one.grain, other.grain)
    return (dict_of(mark, MARKS), False, max(int(mark), one.due(mark)))


def dict_of(moment, marks):
    """The dict in which these marks are at the moment, and the others at 0."""
    return {mark: moment if mark in marks else 0 for mark in MARKS}


def up_to_multiple(number, grain):
    """The least multiple of grain that is not less than the number."""
    return -(-number // grain) * grain


def parting_mark(grain, beside):
    """A mark that rounding by grain brings as far down as it can, of those that are multiples
    of the grain beside."""
    # Of these, rounding brings none down by more than grain less the common part
    # of both. A factor of beside tells one that lies this part above a multiple of
    # grain; its negative one lies this part below.
    common, factor = common_and_factor(beside, grain)
    return (-factor % (grain // common)) * beside


def common_and_factor(one, other):
    """The greatest number that divides both, and how many times one it is beyond a multiple
    of other."""
    rest, factor = one, 1
    next_rest, next_factor = other, 0
    while next_rest:
        times = rest // next_rest
        rest, next_rest = next_rest, rest - times * next_rest
        factor, next_factor = next_factor, factor - times * next_factor
    return rest, factor
