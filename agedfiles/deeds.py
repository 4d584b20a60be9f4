"""Marks of time, and the deeds that set them."""

from agedfiles.errors import NoDeed
from agedfiles.kinds import is_time

MARKS = ("read", "written", "changed")

# The marks that a deed sets to its moment, by its word. What a read sets is
# told by a rule.
SET_NOW = {
    "make": ("read", "written", "changed"),
    "read": (),
    "write": ("written", "changed"),
    "rename": ("changed",),
    "touch": ("read", "written", "changed"),
    "unpack": ("read", "changed"),
    "setback": ("changed",),
}

# The marks that a deed sets back, by its word: just the deeds that have a back.
SET_BACK = {
    "unpack": ("written",),
    "setback": ("read", "written"),
}


def is_deed(value):
    """Tell of any object whether it is a deed."""
    if not isinstance(value, tuple) or len(value) not in (1, 2):
        return False
    word = value[0]
    if not isinstance(word, str) or word not in SET_NOW:
        return False
    if word in SET_BACK:
        return len(value) == 2 and is_time(value[1])
    return len(value) == 1


def makes(value):
    """Tell of any object whether it is a deed that makes a file."""
    return is_deed(value) and value[0] in ("make", "unpack")


def backs(deed):
    """The dict from the marks that a deed sets to how far they are set back."""
    if not is_deed(deed):
        raise NoDeed(deed)
    word = deed[0]
    found = {}
    for mark in MARKS:
        if mark in SET_NOW[word]:
            found[mark] = 0
        elif mark in SET_BACK.get(word, ()):
            found[mark] = deed[1]
    return found


def is_looks(value):
    """Tell of any object whether it is a tuple of one to three unlike marks in order."""
    if not isinstance(value, tuple) or len(value) not in (1, 2, 3):
        return False
    if not all([isinstance(mark, str) for mark in value]):
        return False
    return list(value) == [mark for mark in MARKS if mark in value]
