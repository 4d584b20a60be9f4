"""What the tests share: odd objects, and how errors are caught with what they bear."""


class Odd:
    """An object that cannot be compared, tested or measured."""

    __hash__ = None

    def __eq__(self, other):
        raise AssertionError("compared")

    def __bool__(self):
        raise AssertionError("tested")

    def __len__(self):
        raise AssertionError("measured")

    def __repr__(self):
        return "Odd()"


class Agreeable:
    """An object that is equal to everything."""

    __hash__ = None

    def __eq__(self, other):
        return True

    def __ne__(self, other):
        return False


def odd_objects():
    """Objects that are no integer, no string, and no object of the package."""
    return [None, True, False, "5", b"5", [], {}, (), [1], (1, 2), {1}, object, object(), Odd(), Agreeable(), len]


def caught(error, call, *told):
    """The error of just this class that the call raises."""
    try:
        call(*told)
    except error as e:
        assert e.__class__ == error, e.__class__
        return e
    raise AssertionError("no " + error.__name__)
