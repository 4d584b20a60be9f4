"""A checker of papers, which trusts nothing that they say."""

from agedfiles.ages import sure_backs
from agedfiles.checks import check_use
from agedfiles.deeds import is_looks, makes
from agedfiles.kinds import is_count
from agedfiles.safety import CHOICES, is_counted
from agedfiles.seldom import READ
from agedfiles.stretches import Stretches, is_pair
from agedfiles.ways import is_place

MOST_PAIRS = 1000


def is_paper(way, rule, book, value):
    """Tell of any object whether it is a right paper."""
    check_use(way, rule, book)
    if not has_form(way, rule, value):
        return False
    ages = least_told(value[1])
    reads = {node: Stretches(*pairs) for node, pairs in value[2]}
    if not all([age_holds(way, rule, ages, reads, row) for row in value[1]]):
        return False
    if not all([read_holds(way, rule, reads, node) for node in reads]):
        return False
    return all([is_early(book, ages, link) for link in way.arrows() if is_counted(book, link)])


def has_form(way, rule, value):
    """Tell of any object whether it is a paper, right or not."""
    if not isinstance(value, tuple) or len(value) != 3:
        return False
    word, ages, reads = value
    if not isinstance(word, str) or word != "safe":
        return False
    if not isinstance(ages, tuple) or not all([is_age_row(way, row) for row in ages]):
        return False
    if not isinstance(reads, tuple) or not all([is_read_row(way, row) for row in reads]):
        return False
    if reads and rule.word != "seldom":
        return False
    return len({row[0] for row in reads}) == len(reads)


def is_age_row(way, value):
    """Tell of any object whether it is a tuple (node, looks, n)."""
    if not isinstance(value, tuple) or len(value) != 3:
        return False
    return is_place(value[0], way) and is_looks(value[1]) and is_count(value[2])


def is_read_row(way, value):
    """Tell of any object whether it is a tuple (node, pairs)."""
    if not isinstance(value, tuple) or len(value) != 2:
        return False
    node, pairs = value
    if not is_place(node, way) or way[node] != READ:
        return False
    if not isinstance(pairs, tuple) or not 1 <= len(pairs) <= MOST_PAIRS:
        return False
    return all([is_pair(pair) for pair in pairs])


def least_told(rows_of_ages):
    """The dict from each node and choice of marks to the least n told of it and of some of these
    marks alone."""
    found = {}
    for node, looks, n in rows_of_ages:
        for marks in CHOICES:
            if all([mark in marks for mark in looks]):
                found[node, marks] = min(int(n), found.get((node, marks), n))
    return found


def age_holds(way, rule, ages, reads, row):
    """Tell whether a row (node, looks, n) holds, by what the paper says of other deeds."""
    node, looks, n = row
    sure = sure_backs(rule, way[node])
    if any([mark in looks and back <= n for mark, back in sure.items()]):
        return True
    if rule.word == "seldom" and "read" in looks and node in reads and ends_by(reads[node], n):
        return True
    rest = tuple([mark for mark in looks if mark not in sure])
    if makes(way[node]) or not rest:
        return False
    return all([brings_at_most(ages, link, rest, n) for link in way.arrows() if link[1] == node])


def ends_by(stretches, n):
    """Tell whether no count of the set, which is not empty, is greater than n."""
    return stretches.has_end() and stretches.greatest() <= n


def brings_at_most(ages, link, marks, n):
    """Tell whether the latest of some marks is at most n old at the end of an arrow, if they stay."""
    age = ages.get((link[0], marks))
    return age is not None and link[3] is not None and age + link[3] <= n


def read_holds(way, rule, reads, node):
    """Tell whether the set of a read has all ages that the arrows to it bring."""
    for start, goal, least, most, word in way.arrows():
        if goal == node:
            if way[start] != READ:
                brought = Stretches.one(0)
            elif start in reads:
                brought = marked(reads[start].spread(least, most), rule.after)
            else:
                return False
            if not brought <= reads[node]:
                return False
    return True


def marked(ages, after):
    """The ages behind a read, by those that the mark would have without it."""
    young = ages.below(after)
    if young == ages:
        return young
    return young | Stretches.one(0)


def is_early(book, ages, link):
    """Tell whether no look ahead of the goal of an arrow comes to the threshold of the book."""
    age = ages.get((link[0], book.looks))
    if age is None or link[3] is None:
        return False
    return age + link[3] - 1 + book.grain - 1 < book.threshold()
