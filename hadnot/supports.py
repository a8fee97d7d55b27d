"""Supports: rows of pairs with which one more pair turns an answer."""

from hadnot.pairs import first_row


def support(worth, standing, pair):
    """The first row of pairs of other choices that leaves the answer the same, but not with the pair; or None."""
    world = worth.choices.full(standing)
    name, option = pair
    answer = worth(world)
    left = worth[name, world[name]].is_value(answer)
    return first_row(left & ~worth[name, option].is_value(answer), world)
