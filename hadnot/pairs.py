"""Rows of pairs: the choices, with their options, in which worlds differ from one that stands."""

from hadnot.forms import is_choice


def first_row(worth, standing):
    """The first row of pairs of a world in which a worth is True, or None.

    Standing is a full world.
    """
    costs = least_costs(worth, standing)
    if costs[-1] is None:
        return None
    pairs = []
    at = len(worth.nodes) - 1
    while is_choice(worth.nodes[at]):
        name, below = worth.nodes[at]
        option = standing[name]
        for other, lower in enumerate(below):
            # A row that has the lesser choice comes first.
            if other != standing[name] and option == standing[name] and costs[lower] == costs[at] - 1:
                option = other
        if option != standing[name]:
            pairs.append((name, option))
        at = below[option]
    return tuple(pairs)


def least_costs(worth, standing):
    """For each node the least number of pairs of a way to True, None if there is none."""
    costs = []
    for node in worth.nodes:
        if is_choice(node):
            name, below = node
            ways = [costs[lower] + (0 if option == standing[name] else 1)
                    for option, lower in enumerate(below) if costs[lower] is not None]
            costs.append(min(ways) if ways else None)
        else:
            costs.append(0 if node[1] is True else None)
    return costs
