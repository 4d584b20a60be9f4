"""Checks of plain values. Any object may be asked about."""


def is_whole(value):
    """Tell whether the value is an integer; True and False are none."""
    return isinstance(value, int) and not isinstance(value, bool)


def is_count(value):
    """Tell whether the value is an integer from 0 on."""
    return is_whole(value) and value >= 0


def is_time(value):
    """Tell whether the value is an integer from 1 to 10 ** 9."""
    return is_whole(value) and 1 <= value <= 10 ** 9


def is_moment(value):
    """Tell whether the value is an integer from -10 ** 30 to 10 ** 30."""
    return is_whole(value) and -10 ** 30 <= value <= 10 ** 30


def is_list(value):
    """Tell whether the value serves where a list is wanted."""
    return isinstance(value, (list, tuple))
