"""Rows of steps of a way, and the files that they bring."""

from agedfiles.checks import check_rule, check_way
from agedfiles.deeds import makes
from agedfiles.errors import NoEnd, NoMoment, NoRow
from agedfiles.files import File
from agedfiles.kinds import is_moment, is_whole
from agedfiles.moments import is_point, seconds_of
from agedfiles.ways import is_place


def is_row(way, value):
    """Tell of any object whether it is a row of the way."""
    check_way(way)
    if not isinstance(value, tuple) or len(value) == 0:
        return False
    if not all([is_step(way, step) for step in value]):
        return False
    if not makes(way[value[0][0]]):
        return False
    return all([follows(way, one, other) for one, other in zip(value, value[1:])])


def is_step(way, value):
    """Tell of any object whether it is a node of the way and a moment."""
    if not isinstance(value, tuple) or len(value) != 2:
        return False
    return is_place(value[0], way) and is_moment(value[1])


def follows(way, one, other):
    """Tell whether an arrow leads from one step to the other one, in a time that it has."""
    link = way.arrow(one[0], other[0])
    if link is None:
        return False
    time = other[1] - one[1]
    return link[2] <= time and (link[3] is None or time <= link[3])


def rows(way, many, start=0):
    """Go through all rows of just many steps that begin at a moment."""
    check_way(way)
    if not is_whole(many) or not 1 <= many <= 8:
        raise NoRow(many)
    if not is_point(start):
        raise NoRow(start)
    check_ends(way)
    leads = leading(way, many)
    moment = seconds_of(start)
    for node in range(len(way)):
        if makes(way[node]):
            row = ((node, moment),)
            yield from rows_behind(row, leads, many)


def rows_behind(row, leads, many):
    """Go through all rows of just many steps that begin with a row."""
    if len(row) == many:
        yield row
        return
    node, moment = row[-1]
    for start, goal, least, most, word in leads[many - len(row)]:
        if start == node:
            for time in range(least, most + 1):
                longer = (*row, (goal, moment + time))
                yield from rows_behind(longer, leads, many)


def leading(way, many):
    """For each number of steps below many: the arrows with which so many steps can begin."""
    # Without this, all times of arrows that lead to no row would be gone through.
    found = [[], way.arrows()]
    while len(found) < many:
        starts = [link[0] for link in found[-1]]
        found.append([link for link in way.arrows() if link[1] in starts])
    return found


def check_ends(way):
    """Raise an error if an arrow has no greatest time."""
    for start, goal, least, most, word in way.arrows():
        if most is None:
            raise NoEnd()


def file_at(way, rule, row, at):
    """The file as it is at a moment behind all steps of the row up to it."""
    check_way(way)
    check_rule(rule)
    if not is_row(way, row):
        raise NoRow(row)
    moment = seconds_of(at)
    if moment < row[0][1]:
        raise NoMoment(at)
    past = [step for step in row if step[1] <= moment]
    file = File(rule, way[past[0][0]], past[0][1])
    for node, done_at in past[1:]:
        file.do(way[node], done_at)
    if len(past) < len(row):
        link = way.arrow(past[-1][0], row[len(past)][0])
        file.held = link[4] == "held"
    return file
