"""Rows of pairs: the choices, with their options, in which worlds differ from one that stands.

A way goes down the nodes of a worth, option by option, to one of its values. What it
costs is a pair: its price, and the number of pairs on it.
"""

from hadnot.forms import is_choice
from hadnot.values import is_same


def priced(choices, world, prices):
    """From each choice to what its options cost; one that prices do not name costs 1 for each option."""
    costs = {}
    for name in choices.names:
        each = prices.get(name, (1,) * choices[name])
        costs[name] = [(0, 0) if option == world[name] else (each[option], 1) for option in range(choices[name])]
    return costs


def unpriced(choices, world, names):
    """From each choice to what its options cost: only choices with these names may differ, and none has a price."""
    costs = {}
    for name in choices.names:
        other = (0, 1) if name in names else None
        costs[name] = [(0, 0) if option == world[name] else other for option in range(choices[name])]
    return costs


def true_ends(worth):
    """For each node whether it is the value True."""
    return [node[1] is True for node in worth.nodes]


def turned_ends(worth, world):
    """For each node whether it is another value than the answer in a world."""
    answer = worth(world)
    return [not is_choice(node) and not is_same(node[1], answer) for node in worth.nodes]


def first_way(worth, world, costs, ends):
    """The price and the pairs of the way to an end that costs least, of several the first row; or None."""
    least = least_costs(worth, costs, ends)
    if least[-1] is None:
        return None
    pairs = []
    at = len(worth.nodes) - 1
    while is_choice(worth.nodes[at]):
        name, below = worth.nodes[at]
        steps = costs_below(worth.nodes[at], costs, least)
        # A row that has the lesser choice comes first.
        others = [option for option, cost in enumerate(steps) if cost == least[at] and option != world[name]]
        option = others[0] if others else world[name]
        if others:
            pairs.append((name, option))
        at = below[option]
    return least[-1][0], tuple(pairs)


def least_costs(worth, costs, ends):
    """For each node what a way from it to an end costs at least, None if none goes there."""
    least = []
    for node, is_end in zip(worth.nodes, ends):
        if is_choice(node):
            steps = costs_below(node, costs, least)
            least.append(min([cost for cost in steps if cost is not None], default=None))
        else:
            least.append((0, 0) if is_end else None)
    return least


def costs_below(node, costs, least):
    """For each option of a choice what the ways through it cost at least, None if none goes through it."""
    steps = []
    for step, lower in zip(costs[node[0]], node[1]):
        below = least[lower]
        if step is None or below is None:
            steps.append(None)
        else:
            steps.append((step[0] + below[0], step[1] + below[1]))
    return steps


def is_free(worth, world, names):
    """Whether all worlds that differ only in choices with these names have the same value."""
    answer = worth(world)
    free = {name: True for name in names}
    come = {len(worth.nodes) - 1: True}
    for at in range(len(worth.nodes) - 1, -1, -1):
        if at in come:
            node = worth.nodes[at]
            if is_choice(node):
                name, below = node
                steps = below if name in free else (below[world[name]],)
                for lower in steps:
                    come[lower] = True
            elif not is_same(node[1], answer):
                return False
    return True


def with_pairs(world, pairs):
    """The world that differs from another one in some pairs."""
    return {**world, **dict(pairs)}
