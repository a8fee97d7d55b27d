"""What may change without another answer, and what is to be shown to somebody who sees some choices."""

from hadnot.errors import UnknownName
from hadnot.pairs import first_way, is_free, turned_ends, unpriced


def free_set(worth, standing):
    """The choices of a free set, and from each other choice the first row of pairs that turns the answer with it."""
    choices = worth.choices
    world = choices.full(standing)
    free = freed(worth, world, choices.names)
    others = [name for name in choices.names if name not in free]
    return tuple(free), first_rows(worth, world, free, others)


def to_show(worth, standing, seen):
    """The answer if it can be told from the choices that are seen; else what is to be shown, and why each of it."""
    choices = worth.choices
    world = choices.full(standing)
    hidden = hidden_from(seen, choices)
    if is_free(worth, world, hidden):
        return "told", worth(world)
    free = freed(worth, world, [name for name in worth.depends if name in hidden])
    names = tuple([name for name in worth.depends if name in hidden and name not in free])
    return "show", names, first_rows(worth, world, free, names)


def hidden_from(seen, choices):
    """The choices that are not seen, as the keys of a dict."""
    for name in seen:
        if name not in choices:
            raise UnknownName(name)
    return {name: True for name in choices.names if name not in seen}


def freed(worth, world, names):
    """The choices that are put in one by one where they keep the set free, as the keys of a dict."""
    free = {}
    for name in names:
        if is_free(worth, world, {**free, name: True}):
            free[name] = True
    return free


def first_rows(worth, world, free, names):
    """From each of some choices to the first row of pairs, in it and a free set, that turns the answer."""
    ends = turned_ends(worth, world)
    rows = {}
    for name in names:
        costs = unpriced(worth.choices, world, {**free, name: True})
        _, rows[name] = first_way(worth, world, costs, ends)
    return rows
