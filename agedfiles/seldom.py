"""The ages of the mark "read" behind reads, under rules of the word "seldom"."""

from agedfiles.checks import check_way
from agedfiles.errors import NoRule, NoWay
from agedfiles.rules import Rule
from agedfiles.stretches import Stretches

READ = ("read",)

# Behind reads, ages are less than the after of the rule, so below 2000. Sets of
# them are told by integers, with bit n set for the age n: these are moved, joined
# and compared in one go, however many gaps there are.


def ages_of_read(way, rule, node):
    """The ages that the mark "read" has right behind a read, over all lives."""
    check_way(way)
    if not isinstance(rule, Rule) or rule.word != "seldom":
        raise NoRule(rule)
    # The way raises the same error for what is no number of a node.
    if way[node] != READ:
        raise NoWay("node", node)
    found = read_bits(way, rule.after)
    return stretches_of(found[node])


def stretches_of(bits):
    """The set of the ages that the bits tell."""
    pairs = [(age, age) for age in range(bits.bit_length()) if (bits >> age) & 1]
    return Stretches(*pairs)


def ends_of(bits):
    """The least and the greatest age that the bits tell."""
    lowest = bits & -bits
    return (lowest.bit_length() - 1, bits.bit_length() - 1)


def read_bits(way, after):
    """The dict from the reads to the bits of their ages."""
    links = [link for link in way.arrows() if way[link[1]] == READ]
    found = {link[1]: 0 for link in links}
    waiting = list(found)
    while waiting:
        node = waiting.pop(0)
        bits = bits_behind(node, links, found, after)
        if bits != found[node]:
            found[node] = bits
            waiting = waiting + [link[1] for link in links if link[0] == node and link[1] not in waiting]
    return found


def bits_behind(node, links, found, after):
    """The bits of the ages of a read that those of the reads ahead of it bring."""
    bits = 0
    for start, goal, least, most, word in links:
        if goal == node and start in found:
            bits = bits | brought(found[start], least, most, after)
        elif goal == node:
            # Behind any other deed a read sets its mark.
            bits = bits | 1
    return bits


def brought(bits, least, most, after):
    """The bits of the ages that a read brings which comes behind reads of some ages."""
    # Times beyond after bring just what after brings: the mark is set.
    low = min(int(least), after)
    high = after if most is None else min(int(most), after)
    sums = widened(bits << low, high - low)
    kept = sums & ((1 << after) - 1)
    if kept != sums:
        return kept | 1
    return kept


def widened(bits, width):
    """The bits joined with themselves moved by each number up to width."""
    done = 0
    while done < width:
        step = min(int(done) + 1, width - done)
        bits = bits | (bits << step)
        done = done + step
    return bits
