"""What several tests need: choices, worths built from tables, forms drawn anew."""

import itertools
import random

from hadnot.choices import Choices
from hadnot.worths import Worth

# All kinds of values; some are equal for Python, but not the same.
VALUES = (None, 0, 1, 2, -1, -7, 10 ** 18 - 1, "a", "b", "zz9", "number", False, True)

# Whatever "any value" may be, beside the values.
OTHERS = ("", "A", "9a", "abcdefg", "a b", "a\n", (), (1,), (0, 1), ((None, "x"), True), 10 ** 300, "a.1")


def kind(value):
    if value is None:
        return "none"
    return {bool: "truth", int: "number", str: "word"}[type(value)]


def same(one, other):
    return type(one) is type(other) and one == other


def ordered(values):
    """These values in the order of [2], each once, sorted by comparing pairs."""
    rows = []
    for value in values:
        if not any(same(value, row) for row in rows):
            rows.append(value)
    kinds = ("none", "number", "word", "truth")
    return sorted(rows, key=lambda value: (kinds.index(kind(value)), 0 if value is None else value))


def choices_of(**options):
    """Choices with these numbers of options."""
    choices = Choices()
    for name, many in options.items():
        choices = choices.put(name, many)
    return choices


def all_worlds(choices):
    """All full worlds, made without the generator."""
    rows = itertools.product(*[range(choices[name]) for name in choices.names])
    return [dict(zip(choices.names, row)) for row in rows]


def worth_of(choices, told, order=None, world=None):
    """The worth with the values that a function tells of the worlds.

    It is put together choice by choice, in any order.
    """
    names = list(choices.names if order is None else order)
    world = dict(world or {})
    if not names:
        return Worth(choices, told(world))
    name = names[0]
    result = Worth(choices, None)
    for option in range(choices[name]):
        here = Worth.by(choices, name, [at == option for at in range(choices[name])])
        below = worth_of(choices, told, names[1:], {**world, name: option})
        result = here.when(below, result)
    return result


def drawn(choices, told):
    """The nodes of a function, drawn by the words of [11]."""
    nodes = []

    def place(node):
        # Python's == takes True for 1: nodes are compared by kind as well.
        for at, other in enumerate(nodes):
            if repr(other) == repr(node):
                return at
        nodes.append(node)
        return len(nodes) - 1

    def go(names, world):
        if not names:
            value = told(world)
            return place((kind(value), value))
        below = tuple(go(names[1:], {**world, names[0]: option}) for option in range(choices[names[0]]))
        return below[0] if len(set(below)) == 1 else place((names[0], below))

    go(list(choices.names), {})
    return tuple(nodes)


def random_table(choices, values, seed):
    """A function of the worlds with values at random, and these as a dict."""
    rows = random.Random(seed)
    table = {tuple(world.items()): rows.choice(values) for world in all_worlds(choices)}
    return lambda world: table[tuple((name, world[name]) for name in choices.names)]


def opened_day(day, name, option, many):
    """A day in which a saying of a deed is opened: its rows have choices."""
    made = day._copy()
    for row in range(many):
        choice = f"{name}.{row}"
        made.choices = made.choices.put(choice, 2)
        made._standing = {**made._standing, choice: 0}
        made._prices = {**made._prices, choice: (1, 1)}
    return made._with_deeds([deed.with_opened(option) if deed.name == name else deed for deed in day.deeds])


def told_of(day):
    """All attributes of a day, in one value that can be compared."""
    return (day.choices.names, [(day.choices[name], day.choices.number(name)) for name in day.choices.names],
            day.standing, day.prices, day.all_tables, day.all_cells, day.all_rows, day.rules, day.names,
            [(deed.name, deed.sayings, deed.choice, deed.only, deed.opened) for deed in day.deeds])
