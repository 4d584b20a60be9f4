"""Ways that several tests take, small enough to go through all their rows, and a source of others."""

import random

from agedfiles.books import Book
from agedfiles.errors import NoWay
from agedfiles.rules import Rule
from agedfiles.ways import Way
from tests.model import CHOICES

MAKE, READ, WRITE, RENAME, TOUCH = ("make",), ("read",), ("write",), ("rename",), ("touch",)
WAY = Way([MAKE, READ], [(0, 1, 1, 7), (1, 1, 1, 7)])
MIXED = Way([READ, MAKE, WRITE, ("unpack", 4)],
            [(2, 0, 2, 3, "held"), (1, 0, 1, 2), (0, 2, 1, 1), (0, 0, 2, 4, "held"), (0, 3, 1, 2, "anew"), (3, 2, 2, 2),
             (2, 1, 3, 3, "anew")])
RULES = [Rule.always(), Rule.never(), Rule.seldom(1), Rule.seldom(3), Rule.seldom(7)]


def some_deed(source):
    word = source.choice(["read", "read", "read", "write", "rename", "touch", "setback"])
    return ("setback", source.choice([1, 3, 9])) if word == "setback" else (word,)


def some_way(source, ends=True, longest=4):
    """Some way of up to five nodes; without ends, with arrows without a greatest time among others."""
    while True:
        nodes = [source.choice([("make",), ("unpack", source.choice([1, 4, 12]))])]
        nodes += [some_deed(source) for k in range(source.randint(1, 4))]
        if source.random() < 0.3:
            nodes.append(("make",))
        source.shuffle(nodes)
        arrows = []
        for start in range(len(nodes)):
            for goal in range(len(nodes)):
                if source.random() < 0.45:
                    least = source.randint(1, 3)
                    most = source.randint(least, longest)
                    if not ends and source.random() < 0.15:
                        most = None
                    makes = nodes[goal][0] in ("make", "unpack")
                    arrows.append((start, goal, least, most, "anew" if makes else source.choice(["", "", "held"])))
        source.shuffle(arrows)
        try:
            return Way(nodes, arrows)
        except NoWay:
            pass


def some_book(source):
    return Book(bound=source.randint(0, 8), looks=source.choice(CHOICES), how=source.choice(["above", "from"]),
                day=source.choice([1, 1, 2, 3]), grain=source.choice([1, 1, 2, 3]), spares=source.random() < 0.5,
                late=source.choice([0, 0, 1, 2, 5]), again=source.random() < 0.5, period=source.randint(1, 9))


def some_uses(many, ends=True, seed=1, longest=4):
    """Some ways, rules and books, the same ones each time."""
    source = random.Random(seed)
    return [(some_way(source, ends, longest), source.choice(RULES), some_book(source)) for k in range(many)]


def great_way(seed):
    """Some way of 12 nodes and 40 arrows with times to 10 ** 9."""
    source = random.Random(seed)
    nodes = [MAKE] + [READ] * source.randint(3, 11)
    nodes += [some_deed(source) for k in range(12 - len(nodes))]
    pairs = [(0, 1)] + [(k, k + 1) for k in range(1, 11)] + [(11, 1)]
    rest = [(start, goal) for start in range(12) for goal in range(1, 12) if (start, goal) not in pairs]
    source.shuffle(rest)
    arrows = []
    for start, goal in pairs + rest[:28]:
        least = source.choice([1, 2, 3, 7, 100, 1000, 10 ** 6])
        most = source.choice([least, least, least + 1, least + 50, 10 ** 9, 10 ** 9])
        arrows.append((start, goal, least, most, source.choice(["", "", "held"])))
    source.shuffle(arrows)
    return Way(nodes, arrows)
