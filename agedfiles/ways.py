"""Ways of use: graphs of deeds."""

from agedfiles.deeds import is_deed, makes
from agedfiles.errors import NoWay
from agedfiles.kinds import is_list, is_time, is_whole

WORDS = ("", "held", "anew")


class Way:
    """In which ways a file is used: deeds, and arrows between them; it is never changed."""

    def __init__(self, nodes, arrows):
        check_nodes(nodes)
        check_arrows(arrows, nodes)
        self.deeds = tuple(nodes)
        self.links = tuple([with_word(arrow) for arrow in arrows])
        check_anew(self.links)
        check_reached(self.deeds, self.links)

    def nodes(self):
        """The list of the deeds."""
        return list(self.deeds)

    def arrows(self):
        """The list of the arrows, each one with five parts."""
        return list(self.links)

    def arrow(self, start, goal):
        """The arrow from one node to another, None if there is none."""
        if not is_whole(start) or not is_whole(goal):
            return None
        for link in self.links:
            if link[0] == start and link[1] == goal:
                return link
        return None

    def __getitem__(self, at):
        if not is_place(at, self.deeds):
            raise NoWay("node", at)
        return self.deeds[at]

    def __iter__(self):
        raise TypeError("a way is not gone through: take nodes()")

    def __len__(self):
        return len(self.deeds)

    def __eq__(self, other):
        return isinstance(other, Way) and self.deeds == other.deeds and self.links == other.links


def is_place(value, things):
    """Tell whether the value is the number of one of the things."""
    return is_whole(value) and 0 <= value < len(things)


def is_arrow(value, nodes):
    """Tell whether the value is an arrow between the nodes."""
    if not isinstance(value, tuple) or len(value) not in (4, 5):
        return False
    start, goal, least, most, word = with_word(value)
    if not is_place(start, nodes) or not is_place(goal, nodes):
        return False
    if not is_time(least):
        return False
    if most is not None and not (is_time(most) and least <= most):
        return False
    if not isinstance(word, str) or word not in WORDS:
        return False
    return makes(nodes[goal]) == (word == "anew")


def with_word(arrow):
    """The arrow with five parts."""
    if len(arrow) == 4:
        return (*arrow, "")
    return tuple(arrow)


def check_nodes(nodes):
    """Raise an error unless the nodes are 1 to 12 deeds."""
    if not is_list(nodes) or not 1 <= len(nodes) <= 12:
        raise NoWay("node", None)
    for index, node in enumerate(nodes):
        if not is_deed(node):
            raise NoWay("node", index)


def check_arrows(arrows, nodes):
    """Raise an error unless the arrows are at most 40, of unlike starts and goals."""
    if not is_list(arrows) or len(arrows) > 40:
        raise NoWay("arrow", None)
    ends = set()
    for index, arrow in enumerate(arrows):
        if not is_arrow(arrow, nodes) or (arrow[0], arrow[1]) in ends:
            raise NoWay("arrow", index)
        ends.add((arrow[0], arrow[1]))


def check_anew(links):
    """Raise an error if a file that is made anew would never be in use."""
    used = [link[0] for link in links if link[4] != "anew"]
    for index, link in enumerate(links):
        if link[4] == "anew" and link[1] not in used:
            raise NoWay("arrow", index)


def check_reached(deeds, links):
    """Raise an error if there is a node that no life of a file leads to."""
    # Arrows with "anew" need no care: the nodes that they lead to make, and
    # are reached from the first.
    reached = [node for node, deed in enumerate(deeds) if makes(deed)]
    waiting = list(reached)
    while waiting:
        node = waiting.pop()
        for link in links:
            if link[0] == node and link[1] not in reached:
                reached.append(link[1])
                waiting.append(link[1])
    for node in range(len(deeds)):
        if node not in reached:
            raise NoWay("node", node)
