"""Supports: rows of pairs with which one more pair turns an answer."""

from hadnot.pairs import first_way, true_ends, unpriced


def support(worth, standing, pair):
    """The first row of pairs of other choices that leaves the answer the same, but not with the pair; or None."""
    choices = worth.choices
    world = choices.full(standing)
    name, option = pair
    answer = worth(world)
    left = worth[name, world[name]].is_value(answer)
    turned = left & ~worth[name, option].is_value(answer)
    way = first_way(turned, world, unpriced(choices, world, choices.names), true_ends(turned))
    return None if way is None else way[1]
