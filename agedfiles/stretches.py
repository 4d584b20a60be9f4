"""Stretches: sets of counts that are told by pairs of their ends."""

from agedfiles.errors import NoStretch
from agedfiles.kinds import is_count


class Stretches:
    """A set of counts, kept as its fewest pairs, ascending; it is never changed."""

    def __init__(self, *pairs):
        for index, pair in enumerate(pairs):
            if not is_pair(pair):
                raise NoStretch(index)
        self.kept = merged(pairs)

    @staticmethod
    def none():
        """The set of no count."""
        return Stretches()

    @staticmethod
    def everything():
        """The set of all counts."""
        return Stretches((0, None))

    @staticmethod
    def one(n):
        """The set of one count."""
        return Stretches((n, n))

    def pairs(self):
        """The list of the fewest pairs that tell the set, ascending."""
        return list(self.kept)

    def spread(self, least, most):
        """The set of all sums of a count of the set and one from least to most."""
        if not is_pair((least, most)):
            raise NoStretch(None)
        found = [(low + least, sum_of_ends(high, most)) for low, high in self.kept]
        return Stretches(*found)

    def below(self, bound):
        """The part below a count."""
        if bound == 0:
            return Stretches()
        return self & Stretches((0, bound - 1))

    def least(self):
        """The least count, None if there is none."""
        return self.kept[0][0] if self.kept else None

    def greatest(self):
        """The greatest count, None if there is none or no end."""
        return self.kept[-1][1] if self.kept else None

    def has_end(self):
        """Tell whether there is a greatest count or none at all."""
        return not self.kept or self.kept[-1][1] is not None

    def count(self):
        """How many counts there are, None without an end."""
        if not self.has_end():
            return None
        return sum([high - low + 1 for low, high in self.kept])

    def numbers(self):
        """Go through the counts, ascending."""
        for low, high in self.kept:
            number = low
            while high is None or number <= high:
                yield number
                number += 1

    def __contains__(self, x):
        if not is_count(x):
            return False
        return any([low <= x and (high is None or x <= high) for low, high in self.kept])

    def __and__(self, other):
        found = common(self.kept, kept_of(other))
        return Stretches(*found)

    def __or__(self, other):
        found = self.kept + kept_of(other)
        return Stretches(*found)

    def __sub__(self, other):
        found = common(self.kept, gaps(kept_of(other)))
        return Stretches(*found)

    def __le__(self, other):
        return not common(self.kept, gaps(kept_of(other)))

    def __add__(self, other):
        return self.spread(other, other)

    def __radd__(self, other):
        return self + other

    def __eq__(self, other):
        return isinstance(other, Stretches) and self.kept == other.kept

    def __bool__(self):
        return bool(self.kept)


def is_pair(value):
    """Tell whether the value is a pair (low, high) of counts, None for no end."""
    if not isinstance(value, tuple) or len(value) != 2:
        return False
    low, high = value
    return is_count(low) and (high is None or is_count(high) and low <= high)


def kept_of(value):
    """The pairs of Stretches; of nothing else."""
    if not isinstance(value, Stretches):
        raise NoStretch(None)
    return value.kept


def merged(pairs):
    """The fewest pairs that tell the counts of any pairs, ascending."""
    # What is covered depends on the lows and the highs alone, not on which
    # belong together, so each of both can be sorted for itself.
    lows = sorted([int(low) for low, high in pairs])
    highs = sorted([int(high) for low, high in pairs if high is not None])
    starts = [k for k in range(len(lows)) if starts_anew(lows, highs, k)]
    found = []
    for at, start in enumerate(starts):
        goal = starts[at + 1] if at + 1 < len(starts) else len(lows)
        found.append((lows[start], highs[goal - 1] if goal <= len(highs) else None))
    return tuple(found)


def starts_anew(lows, highs, k):
    """Tell whether the k pairs with lesser lows all end ahead of a gap before this low."""
    return k == 0 or k <= len(highs) and highs[k - 1] + 1 < lows[k]


def common(one, other):
    """The pairs of the counts in both; each of both is fewest pairs, ascending."""
    found = []
    at = 0
    beside = 0
    while at < len(one) and beside < len(other):
        low = max(int(one[at][0]), other[beside][0])
        high = earlier_end(one[at][1], other[beside][1])
        if high is None or low <= high:
            found.append((low, high))
        if one[at][1] == high:
            at += 1
        else:
            beside += 1
    return found


def gaps(pairs):
    """The pairs of the counts that no pair has; the pairs are the fewest, ascending."""
    found = []
    low = 0
    for start, high in pairs:
        if low < start:
            found.append((low, start - 1))
        if high is None:
            return found
        low = high + 1
    found.append((low, None))
    return found


def earlier_end(one, other):
    """The lesser of two ends, None being no end."""
    if one is None:
        return other
    if other is None:
        return one
    return min(int(one), other)


def sum_of_ends(one, other):
    """The sum of two ends, None being no end."""
    if one is None or other is None:
        return None
    return one + other
