"""Shares: how much each choice contributes to the difference of two worlds."""

from math import comb, factorial

from hadnot.errors import NotNumber
from hadnot.forms import is_choice
from hadnot.ratios import Ratio


def shares(worth, start, end):
    """From each choice in which two worlds differ to the mean change of the value when it is turned."""
    between = Between(worth, worth.choices.full(start), worth.choices.full(end))
    ways = between.ways_above()
    if not between.is_of_numbers(ways):
        raise NotNumber()
    sums = between.sums_below(ways)
    many = len(between.names)
    changes = {name: [] for name in between.names}
    for node in ways:
        if between.pairs[node] is not None:
            name = between.names[between.places[node]]
            changes[name] = added(changes[name], product_of(ways[node], between.changes(node, sums)))
    return {name: Ratio(weighed(changes[name], many), factorial(many)) for name in between.names}


def weighed(changes, many):
    """The sum of changes, by how many choices are turned ahead, each in all orders that turn just these."""
    return sum([change * factorial(ahead) * factorial(many - 1 - ahead) for ahead, change in enumerate(changes)])


def product_of(ways, changes):
    """The changes in all ways, by how many choices are turned above and below."""
    told = [0 for _ in range(len(ways) + len(changes) - 1)]
    for above, number in enumerate(ways):
        for below, change in enumerate(changes):
            told[above + below] = told[above + below] + number * change
    return told


def spread(numbers, many):
    """Numbers by how many choices are turned, with some more choices that turn nothing."""
    if many == 0:
        return numbers
    told = [0 for _ in range(len(numbers) + many)]
    for turned, number in enumerate(numbers):
        for more in range(many + 1):
            told[turned + more] = told[turned + more] + number * comb(many, more)
    return told


def added(one, other):
    """The sums of two lists of numbers, place by place."""
    longest = max(len(one), len(other))
    return [(one[at] if at < len(one) else 0) + (other[at] if at < len(other) else 0) for at in range(longest)]


class Between:
    """The nodes of a worth that count in the worlds between two worlds.

    There a choice has just two options: not turned and turned.
    """

    def __init__(self, worth, start, end):
        self.nodes = worth.nodes
        self.names = [name for name in worth.choices.names if start[name] != end[name]]
        numbers = {name: place for place, name in enumerate(self.names)}
        # Of each node: what stands for it, the pair of nodes below, the place of its choice.
        self.stand_in = []
        self.pairs = []
        self.places = []
        for number, node in enumerate(worth.nodes):
            pair, place, stand_in = None, len(self.names), number
            if is_choice(node):
                name, under = node
                pair = (self.stand_in[under[start[name]]], self.stand_in[under[end[name]]])
                if pair[0] == pair[1]:
                    stand_in = pair[0]
                place = numbers.get(name, place)
            self.stand_in.append(stand_in)
            self.pairs.append(pair)
            self.places.append(place)
        self.top = self.stand_in[-1]

    def ways_above(self):
        """For each node that is come to in how many ways, by how many choices are turned above."""
        ways = {self.top: spread([1], self.places[self.top])}
        for node in range(self.top, -1, -1):
            if node in ways and self.pairs[node] is not None:
                for turned, lower in enumerate(self.pairs[node]):
                    more = spread(ways[node], self.places[lower] - self.places[node] - 1)
                    ways[lower] = added(ways.get(lower, []), [0] * turned + more)
        return ways

    def is_of_numbers(self, ways):
        """Whether all values that are come to are numbers, or all are truths."""
        kinds = {self.nodes[node][0]: True for node in ways if self.pairs[node] is None}
        return list(kinds) in (["number"], ["truth"])

    def sums_below(self, ways):
        """For each node that is come to the sums of the values below, by how many choices are turned there."""
        sums = {}
        for node in sorted(list(ways)):
            if self.pairs[node] is None:
                sums[node] = [int(self.nodes[node][1])]
            else:
                left, turned = self.sums_of_pair(node, sums)
                sums[node] = added(left, [0, *turned])
        return sums

    def sums_of_pair(self, node, sums):
        """The sums below a node if its choice is not turned, and if it is."""
        return [spread(sums[lower], self.places[lower] - self.places[node] - 1) for lower in self.pairs[node]]

    def changes(self, node, sums):
        """What it changes to turn the choice of a node, by how many choices are turned below."""
        left, turned = self.sums_of_pair(node, sums)
        return [more - less for less, more in zip(left, turned)]
