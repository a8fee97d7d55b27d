"""Wishes: the cheapest world in which something is True."""

from hadnot.pairs import first_way, priced, true_ends


def cheapest(worth, standing, prices):
    """The least price of a world with True and its pairs, of several the first row; None if there is none."""
    world = worth.choices.full(standing)
    return first_way(worth, world, priced(worth.choices, world, prices), true_ends(worth))
