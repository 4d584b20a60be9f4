"""The greatest and the least ages of the latest mark of a choice, over all lives."""

from agedfiles.checks import check_rule, check_way
from agedfiles.deeds import backs, is_looks
from agedfiles.errors import NoMark, NoWay
from agedfiles.seldom import ends_of, read_bits
from agedfiles.stretches import sum_of_ends
from agedfiles.ways import is_place


def greatest_age(way, rule, looks, node):
    """The greatest age right behind the deed of a node, None if there is none."""
    check_place(way, rule, looks, node)
    ages = greatest_ages(way, rule, looks)
    return ages[node]


def least_age(way, rule, looks, node):
    """The least age right behind the deed of a node."""
    check_place(way, rule, looks, node)
    ages = least_ages(way, rule, looks)
    return ages[node]


def check_place(way, rule, looks, node):
    """Raise an error unless these are a way, a rule, a choice of marks and a node."""
    check_way(way)
    check_rule(rule)
    if not is_looks(looks):
        raise NoMark(looks)
    if not is_place(node, way):
        raise NoWay("node", node)


def sure_backs(rule, deed):
    """The dict from the marks that a deed sets in all lives to how far they are set back."""
    if deed[0] == "read" and rule.word == "always":
        return {"read": 0}
    return backs(deed)


def sure_ages(way, rule, looks):
    """The dict from the nodes that set a mark of looks in all lives to the age behind them."""
    # Other marks of looks need no care: a deed that does not set all three
    # marks sets none of them back, and no mark is later than its deed.
    found = {}
    for node, deed in enumerate(way.nodes()):
        set_back = [back for mark, back in sure_backs(rule, deed).items() if mark in looks]
        if set_back:
            found[node] = min([int(back) for back in set_back])
    return found


def known_ages(way, rule, looks):
    """The dict from the nodes whose ages can be told at once to the least and the greatest."""
    found = {node: (age, age) for node, age in sure_ages(way, rule, looks).items()}
    # Behind each read the mark that it sets seldom is later than both others: it was
    # set by this read, or by one behind the last deed that is no read.
    if rule.word == "seldom" and "read" in looks:
        for node, bits in read_bits(way, rule.after).items():
            found[node] = ends_of(bits)
    return found


def greatest_ages(way, rule, looks):
    """The dict from all nodes to their greatest ages, None where there is none."""
    found = {node: ends[1] for node, ends in known_ages(way, rule, looks).items()}
    links = [link for link in way.arrows() if link[1] not in found]
    for tour in range(len(way)):
        for node in range(len(way)):
            into = [link for link in links if link[1] == node]
            if node not in found and all([link[0] in found for link in into]):
                found[node] = greatest_end([sum_of_ends(found[link[0]], link[3]) for link in into])
    # What is left lies on or behind a circle that sets none of the marks.
    return {node: found.get(node) for node in range(len(way))}


def greatest_end(ends):
    """The greatest one of some ends, None being no end."""
    if None in ends:
        return None
    return max([int(end) for end in ends])


def least_ages(way, rule, looks):
    """The dict from all nodes to their least ages."""
    found = {node: ends[0] for node, ends in known_ages(way, rule, looks).items()}
    links = [link for link in way.arrows() if link[1] not in found]
    for tour in range(len(way)):
        for start, goal, least, most, word in links:
            if start in found:
                age = found[start] + least
                found[goal] = min(int(found.get(goal, age)), age)
    return found
