"""The lives of a way by the number of their steps, and the greatest ages behind them."""

from agedfiles.ages import sure_ages
from agedfiles.deeds import makes
from agedfiles.seldom import READ, brought


class Lives:
    """The lives of 1 step, of 2 steps and so on, with the ages that they bring.

    The arrows that are handed in all have a greatest time. Each layer is about
    the lives of one number of steps: a dict from the nodes at which such lives
    end to the greatest age of the latest mark of looks there, or to the bits of
    all ages where the greatest one alone does not tell what a next read does."""

    def __init__(self, way, rule, looks, links):
        self.wait = rule.after
        self.links = [link for link in links if link[4] != "anew"]
        self.sure = sure_ages(way, rule, looks)
        self.by_bits = []
        if rule.word == "seldom" and "read" in looks:
            self.by_bits = [node for node in range(len(way)) if way[node] == READ]
        self.layers = [{node: self.sure[node] for node in range(len(way)) if makes(way[node])}]

    def greatest_of(self, many, node):
        """The greatest age behind lives of just many steps that end at a node, None without any."""
        while len(self.layers) < many:
            self.layers.append(self.next_layer(self.layers[-1]))
        layer = self.layers[many - 1]
        return self.oldest(node, layer[node]) if node in layer else None

    def next_layer(self, layer):
        """The layer of the lives that have one step more."""
        found = {}
        for link in self.links:
            if link[0] in layer:
                worth = self.brings(link, layer[link[0]])
                found[link[1]] = self.joined(link[1], worth, found.get(link[1], worth))
        return found

    def brings(self, link, worth):
        """What an arrow brings to its goal, by what stands at its start."""
        start, goal, least, most, word = link
        if goal in self.sure:
            return self.sure[goal]
        if goal not in self.by_bits:
            return self.oldest(start, worth) + most
        if start not in self.by_bits:
            return 1
        return brought(worth, least, most, self.wait)

    def joined(self, node, one, other):
        """What two arrows bring to a node together."""
        if node in self.by_bits:
            return one | other
        return max(int(one), other)

    def oldest(self, node, worth):
        """The greatest age of what stands at a node."""
        if node in self.by_bits:
            return worth.bit_length() - 1
        return worth

    def row(self, many, node, moment):
        """A life of just many steps that ends at a node, with its greatest age, at a moment."""
        age = self.greatest_of(many, node)
        steps = [(node, moment)]
        for at in range(many - 2, -1, -1):
            start, time, age = self.origin(self.layers[at], steps[-1][0], age)
            steps.append((start, steps[-1][1] - time))
        return tuple(steps[::-1])

    def origin(self, layer, node, age):
        """A start of an arrow, its time and an age at the start by which a node has an age."""
        for link in self.links:
            if link[1] == node and link[0] in layer:
                found = self.time_and_age(link, layer[link[0]], age)
                if found is not None:
                    return (link[0], *found)
        return None

    def time_and_age(self, link, worth, age):
        """A time of an arrow and an age at its start by which its goal has an age, None without."""
        start, goal, least, most, word = link
        oldest = self.oldest(start, worth)
        if goal in self.sure:
            return (least, oldest)
        if goal not in self.by_bits:
            return (most, oldest) if oldest + most == age else None
        if start not in self.by_bits:
            return (least, oldest) if age == 0 else None
        if age == 0:
            return (most, oldest) if oldest + most >= self.wait else None
        return time_and_bit(worth, least, most, age)


def time_and_bit(bits, least, most, age):
    """A time and an age told by the bits that are the age together, None without."""
    if age < least:
        return None
    lower = bits & ((1 << (age - least + 1)) - 1)
    oldest = lower.bit_length() - 1
    return (age - oldest, oldest) if lower and oldest + most >= age else None
