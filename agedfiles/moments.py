"""Moments: points of time in seconds."""

from agedfiles.errors import NoGrain, NoMoment
from agedfiles.kinds import is_moment, is_whole


class Moment:
    """A point of time, which is never changed."""

    def __init__(self, seconds):
        if not is_moment(seconds):
            raise NoMoment(seconds)
        self.number = seconds

    @property
    def seconds(self):
        """The moment as an integer."""
        return self.number

    def seen(self, grain):
        """The Moment rounded down to a multiple of grain."""
        if not is_whole(grain) or not 1 <= grain <= 10 ** 6:
            raise NoGrain(grain)
        return Moment(self.number // grain * grain)

    def __add__(self, other):
        if not is_whole(other):
            raise NoMoment(other)
        return Moment(self.number + other)

    def __radd__(self, other):
        return self + other

    def __sub__(self, other):
        if isinstance(other, Moment):
            return self.number - other.number
        if not is_whole(other):
            raise NoMoment(other)
        return Moment(self.number - other)

    def __rsub__(self, other):
        raise NoMoment(other)

    def __lt__(self, other):
        return self.number < number_of(other)

    def __le__(self, other):
        return self.number <= number_of(other)

    def __gt__(self, other):
        return self.number > number_of(other)

    def __ge__(self, other):
        return self.number >= number_of(other)

    def __eq__(self, other):
        return isinstance(other, Moment) and self.number == other.number


def number_of(value):
    """The integer of a Moment; of nothing else."""
    if not isinstance(value, Moment):
        raise NoMoment(value)
    return value.number


def is_point(value):
    """Tell of any object whether it is a moment or Moment."""
    return isinstance(value, Moment) or is_moment(value)


def seconds_of(value):
    """The integer of a moment or Moment."""
    if isinstance(value, Moment):
        return value.number
    if not is_moment(value):
        raise NoMoment(value)
    return value
