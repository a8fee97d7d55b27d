"""Two days put together: a choice tells whose deeds are done."""

from hadnot.days import remade
from hadnot.errors import Clash, InvalidName, Taken
from hadnot.values import is_name


def met(one, other, name):
    """The day with the deeds that two days have in common, then those of one or of the other."""
    if not is_name(name):
        raise InvalidName(name)
    if name in one.choices or name in other.choices:
        raise Taken(name)
    head = many_common(one.deeds, other.deeds)
    for clash in clashes(one, other, head):
        raise Clash(clash)
    choices, standing, prices = one.choices, one.standing, one.prices
    for added in other.choices.names:
        if added not in choices:
            choices = choices.put(added, other.choices[added])
            standing[added] = other.standing[added]
            prices[added] = other.prices[added]
    choices = choices.put(name, 2)
    standing[name] = 0
    prices[name] = (1, 1)
    deeds = [*one.deeds[:head], *only_with(one.deeds[head:], (name, 0)), *only_with(other.deeds[head:], (name, 1))]
    return remade(one, choices, standing, prices, deeds)


def many_common(one, other):
    """How many deeds at the beginning of two rows are equal."""
    many = 0
    while many < len(one) and many < len(other) and one[many] == other[many]:
        many += 1
    return many


def only_with(deeds, pair):
    """Some deeds, each only in the worlds that have the option of a pair."""
    return [deed.with_only((pair, *deed.only)) for deed in deeds]


def clashes(one, other, head):
    """The names of all in which two days with a head of so many deeds do not agree, in order."""
    names = differing(one.all_tables, other.all_tables)
    names.extend(differing(one.all_cells, other.all_cells))
    names.extend(differing(rows_by_table(one), rows_by_table(other)))
    names.extend(differing(rules_by_name(one), rules_by_name(other)))
    common = [name for name in one.choices.names if name in other.choices]
    names.extend(differing(told_of(one, common), told_of(other, common)))
    names.extend(sorted([name for name in one.names[head:] if name in other.names[head:]]))
    return names


def differing(one, other):
    """The keys that only one of two dicts has, or that have other values there, in order."""
    names = [name for name in one if name not in other or one[name] != other[name]]
    return sorted([*names, *[name for name in other if name not in one]])


def rows_by_table(day):
    """From each table with rows in the beginning to these, by their keys."""
    rows = day.all_rows
    tables = {table: {} for table, _ in rows}
    for (table, key), row in rows.items():
        tables[table][key] = row
    return tables


def rules_by_name(day):
    """From each rule to its place, its params and its expression."""
    return {name: (place, params, expression) for place, (name, params, expression) in enumerate(day.rules)}


def told_of(day, names):
    """From each of some choices to its number of options, its standing option and its prices."""
    standing, prices = day.standing, day.prices
    return {name: (day.choices[name], standing[name], prices[name]) for name in names}
