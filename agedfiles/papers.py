"""Papers that show that a book is safe, so that anybody can check it."""

from agedfiles.ages import greatest_ages
from agedfiles.safety import is_safe
from agedfiles.seldom import read_bits, stretches_of


def paper_of(way, rule, book):
    """A right paper, None if the book is not safe."""
    if not is_safe(way, rule, book):
        return None
    looks = book.looks
    ages = [(node, looks, age) for node, age in greatest_ages(way, rule, looks).items() if age is not None]
    return ("safe", tuple(ages), read_rows(way, rule, looks))


def read_rows(way, rule, looks):
    """The rows of a paper that tell the ages of the mark "read" behind reads."""
    if rule.word != "seldom" or "read" not in looks:
        return ()
    bits = read_bits(way, rule.after)
    # All ages are below 2000, so no set needs more than 1000 pairs.
    found = [(node, tuple(stretches_of(bits[node]).pairs())) for node in range(len(way)) if node in bits]
    return tuple(found)
