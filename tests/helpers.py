"""What several tests need: choices, worths built from tables, forms drawn anew."""

import itertools
import random

from hadnot.choices import Choices
from hadnot.worths import Worth

# All kinds of values; some are equal for Python, but not the same.
VALUES = (None, 0, 1, 2, -1, -7, 10 ** 18 - 1, "a", "b", "zz9", "number", False, True)

# Whatever "any value" may be, beside the values.
OTHERS = ("", "A", "9a", "abcdefg", "a b", "a\n", (), (1,), (0, 1), ((None, "x"), True), 10 ** 300, "a.1")


def kind(value):
    if value is None:
        return "none"
    return {bool: "truth", int: "number", str: "word"}[type(value)]


def same(one, other):
    return type(one) is type(other) and one == other


def ordered(values):
    """These values in the order of [2], each once, sorted by comparing pairs."""
    rows = []
    for value in values:
        if not any(same(value, row) for row in rows):
            rows.append(value)
    kinds = ("none", "number", "word", "truth")
    return sorted(rows, key=lambda value: (kinds.index(kind(value)), 0 if value is None else value))


def choices_of(**options):
    """Choices with these numbers of options."""
    choices = Choices()
    for name, many in options.items():
        choices = choices.put(name, many)
    return choices


def all_worlds(choices):
    """All full worlds, made without the generator."""
    rows = itertools.product(*[range(choices[name]) for name in choices.names])
    return [dict(zip(choices.names, row)) for row in rows]


def worth_of(choices, told, order=None, world=None):
    """The worth with the values that a function tells of the worlds.

    It is put together choice by choice, in any order.
    """
    names = list(choices.names if order is None else order)
    world = dict(world or {})
    if not names:
        return Worth(choices, told(world))
    name = names[0]
    result = Worth(choices, None)
    for option in range(choices[name]):
        here = Worth.by(choices, name, [at == option for at in range(choices[name])])
        below = worth_of(choices, told, names[1:], {**world, name: option})
        result = here.when(below, result)
    return result


def drawn(choices, told):
    """The nodes of a function, drawn by the words of [11]."""
    nodes = []

    def place(node):
        # Python's == takes True for 1: nodes are compared by kind as well.
        for at, other in enumerate(nodes):
            if repr(other) == repr(node):
                return at
        nodes.append(node)
        return len(nodes) - 1

    def go(names, world):
        if not names:
            value = told(world)
            return place((kind(value), value))
        below = tuple(go(names[1:], {**world, names[0]: option}) for option in range(choices[names[0]]))
        return below[0] if len(set(below)) == 1 else place((names[0], below))

    go(list(choices.names), {})
    return tuple(nodes)


def random_table(choices, values, seed):
    """A function of the worlds with values at random, and these as a dict."""
    rows = random.Random(seed)
    table = {tuple(world.items()): rows.choice(values) for world in all_worlds(choices)}
    return lambda world: table[tuple((name, world[name]) for name in choices.names)]


def pairs_between(choices, world, standing):
    return tuple((name, world[name]) for name in choices.names if world[name] != standing[name])


def place(choices, pairs):
    """By what rows of pairs are ordered."""
    return len(pairs), [(choices.number(name), option) for name, option in pairs]


def rows_of(worth, standing):
    """The rows of pairs of all worlds, in order, with the values there."""
    choices = worth.choices
    rows = [(pairs_between(choices, world, standing), worth(world)) for world in all_worlds(choices)]
    return sorted(rows, key=lambda row: place(choices, row[0]))


def random_worths(many, seed):
    """Worths over few choices with few or many values, and worlds that stand."""
    rows = random.Random(seed)
    for at in range(many):
        names = rows.sample(["d", "a", "c", "b", "e"], rows.randrange(0, 5))
        choices = choices_of(**{name: rows.choice((2, 2, 3, 4)) for name in names})
        if rows.random() < 0.3 and names:
            choices = choices.without(rows.choice(names)).put("z", 2)
        values = rows.choice(((True, False), (True, False, False, False), (0, 1, True), VALUES, (None, 5, 5, 5, 5, 5)))
        worth = worth_of(choices, random_table(choices, values, at))
        yield worth, rows.choice(all_worlds(choices))


def many_choices(many):
    return choices_of(**{f"c{at}": 2 for at in range(many)})


def told_of(day):
    """All attributes of a day, in one value that can be compared."""
    return (day.choices.names, [(day.choices[name], day.choices.number(name)) for name in day.choices.names],
            day.standing, day.prices, day.all_tables, day.all_cells, day.all_rows, day.rules, day.names,
            [(deed.name, deed.sayings, deed.choice, deed.only, deed.opened) for deed in day.deeds])


class Knots:
    """Worths over a few choices each, and their sum or the like over all of these."""

    def __init__(self, seed, sizes, values):
        rows = random.Random(seed)
        names = [[f"k{knot}c{at}" for at in range(size)] for knot, size in enumerate(sizes)]
        options = {name: rows.choice((2, 2, 2, 3)) for knot in names for name in knot}
        self.choices = choices_of(**options)
        self.alone = []
        self.spread = []
        for at, knot in enumerate(names):
            choices = choices_of(**{name: options[name] for name in knot})
            told = random_table(choices, values, (seed + 1) * 1000 + at)
            self.alone.append(worth_of(choices, told))
            self.spread.append(worth_of(self.choices, lambda world: told({name: world[name] for name in knot}),
                                        order=knot))
        self.standing = {name: rows.randrange(options[name]) for name in options}
        self.prices = {name: tuple(rows.choice((0, 1, 1, 2, 10 ** 9)) for _ in range(options[name]))
                       for name in options if rows.random() < 0.8}

    def worlds(self):
        """The parts of the standing world, knot by knot."""
        return [{name: self.standing[name] for name in worth.choices.names} for worth in self.alone]

    def joined(self, sign):
        total = self.spread[0]
        for worth in self.spread[1:]:
            total = total + worth if sign == "+" else total & worth if sign == "&" else total | worth
        return total
