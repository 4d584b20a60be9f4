"""Faults whose rows have the fewest steps."""

from agedfiles.errors import TooLong
from agedfiles.lives import Lives
from agedfiles.safety import is_counted, is_safe

MOST_STEPS = 60

# No rule waits for a greater age.
GREATEST_AFTER = 2000


def shortest_fault(way, rule, book):
    """A fault whose row has the fewest steps, None if the book is safe."""
    if is_safe(way, rule, book):
        return None
    # A time by which a mark is old enough, and by which each read sets its mark,
    # serves as well as all greater ones.
    great = max(GREATEST_AFTER, int(book.threshold()) + 1)
    links = [with_end(link, great) for link in way.arrows()]
    lives = Lives(way, rule, book.looks, links)
    for steps in range(2, MOST_STEPS + 1):
        for link in links:
            many = steps_ahead(link, steps)
            if is_counted(book, link) and brings_fault(book, lives, link, many):
                return fault_of(book, lives, link, many)
    raise TooLong(MOST_STEPS)


def with_end(link, great):
    """The arrow with a great time for its greatest one, if it has none."""
    start, goal, least, most, word = link
    if most is None:
        return (start, goal, least, max(int(least), great), word)
    return link


def steps_ahead(link, steps):
    """How many steps of a fault lie ahead of the goal of the arrow by which the look comes."""
    # A file that is made anew is in use as long as a step follows.
    return steps - 2 if link[4] == "anew" else steps - 1


def brings_fault(book, lives, link, many):
    """Tell whether a look ahead of the goal of an arrow, behind just many steps, can be a fault."""
    if many < 1:
        return False
    age = lives.greatest_of(many, link[0])
    return age is not None and age + link[3] + book.grain - 2 >= book.threshold()


def fault_of(book, lives, link, many):
    """The fault by a look just ahead of the goal of an arrow, behind just many steps."""
    start, goal, least, most, word = link
    # The latest mark then lies just ahead of a multiple of the grain.
    moment = (lives.greatest_of(many, start) - 1) % book.grain
    then = moment + most
    ahead = lives.row(many, start, moment)
    if word != "anew":
        return ((*ahead, (goal, then)), then - 1, then - 1)
    onward = [other for other in lives.links if other[0] == goal]
    behind = (onward[0][1], then + onward[0][2])
    return ((*ahead, (goal, then), behind), then - 1, then)
