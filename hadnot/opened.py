"""Opened deeds: each row of a saying has a choice by which it is left out."""

from hadnot.days import remade
from hadnot.errors import NotOpen, Opened


def opened(day, deed):
    """The day in which the rows of the saying of a deed that stands now have choices."""
    found = day[deed]
    if found.opened is not None:
        raise Opened(deed)
    changed = found.with_opened(0 if found.choice is None else day.standing[found.choice])
    choices, standing, prices = day.choices, day.standing, day.prices
    for name in changed.row_choices():
        choices = choices.put(name, 2)
        standing[name] = 0
        prices[name] = (1, 1)
    return remade(day, choices, standing, prices, exchanged(day, changed))


def closed(day, deed):
    """The day without the choices of the rows of an opened deed."""
    found = day[deed]
    if found.opened is None:
        raise NotOpen(deed)
    choices, standing, prices = day.choices, day.standing, day.prices
    for name in found.row_choices():
        choices = choices.without(name)
        del standing[name]
        del prices[name]
    return remade(day, choices, standing, prices, exchanged(day, found.with_opened(None)))


def exchanged(day, deed):
    """The deeds of a day with another one in the place of that of the same name."""
    return [deed if other.name == deed.name else other for other in day.deeds]
