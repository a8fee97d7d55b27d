"""What a day names and what is not there."""

from hadnot.phrases import expression_parts, row_parts
from hadnot.values import rank


class Known:
    """What expressions and sayings may name at one place of a day.

    Tables are told with their parts, rules with the number of their params.
    """

    def __init__(self, choices, tables, rules, deeds):
        self.choices = choices
        self.tables = tables
        self.rules = rules
        self.deeds = deeds


def unready_things(day):
    """The pairs of where something is named and the name that is not there, in order."""
    return unready_cells(day) + unready_rows(day) + unready_rules(day) + unready_deeds(day)


def unready_cells(day):
    """The pairs of the cells."""
    cells = day.all_cells
    things = []
    for cell in sorted(cells):
        if isinstance(cells[cell], tuple):
            name, values = cells[cell]
            if name not in day.choices or day.choices[name] != len(values):
                things.append((cell, name))
    return things


def unready_rows(day):
    """The pairs of the rows in the beginning."""
    tables = day.all_tables
    rows = day.all_rows
    things = []
    for table, key in sorted(rows, key=lambda row: (row[0], rank(row[1]))):
        values, only = rows[table, key]
        if len(values) != len(tables[table]):
            things.append((table, table))
        for name in missing_options(only, day.choices):
            things.append((table, name))
    return things


def unready_rules(day):
    """The pairs of the rules: each may name the ones ahead of it, and no deed."""
    known = Known(day.choices, day.all_tables, {}, ())
    things = []
    for name, params, expression in day.rules:
        for missing in missing_in_expression(expression, known):
            things.append((name, missing))
        known.rules[name] = len(params)
    return things


def unready_deeds(day):
    """The pairs of the deeds: each may name the ones ahead of it."""
    rules = {name: len(params) for name, params, _ in day.rules}
    things = []
    for place, deed in enumerate(day.deeds):
        known = Known(day.choices, day.all_tables, rules, day.names[:place])
        for missing in missing_in_deed(deed, known):
            things.append((deed.name, missing))
    return things


def missing_in_deed(deed, known):
    """The names in a deed that are not there, in order."""
    names = []
    if deed.choice is not None and deed.choice not in known.choices:
        names.append(deed.choice)
    names.extend(missing_options(deed.only, known.choices))
    for saying in deed.sayings:
        names.extend(missing_in_saying(saying, known))
    return names


def missing_options(pairs, choices):
    """The choices of pairs that are not there or do not have the option."""
    return [name for name, option in pairs if not choices.has_option(name, option)]


def missing_in_saying(rows, known):
    """The names in rows that are not there, in the order of the text."""
    names = []
    for row in rows:
        names.extend(missing_in_parts(row, row_parts(row), known))
    return names


def missing_in_expression(expression, known):
    """The names in an expression that are not there, in the order of the text."""
    if isinstance(expression, (int, str)) or expression[0] in ("word", "my"):
        return []
    return missing_in_parts(expression, expression_parts(expression), known)


def missing_in_parts(phrase, parts, known):
    """The names in the parts of an expression or a row that are not there."""
    names = []
    for kind, part in parts:
        if kind == "expression":
            names.extend(missing_in_expression(part, known))
        elif kind == "expressions":
            for value in part:
                names.extend(missing_in_expression(value, known))
        elif kind == "rows":
            names.extend(missing_in_saying(part, known))
        elif not is_known(kind, part, phrase, known):
            names.append(part)
    return names


def is_known(kind, name, phrase, known):
    """Whether a name in an expression or a row is there."""
    if kind == "table":
        parts = known.tables.get(name)
        return parts is not None and (phrase[0] != "insert" or len(phrase[3]) == len(parts))
    if kind == "part":
        return name in known.tables.get(phrase[1], ())
    if kind == "rule":
        return known.rules.get(name) == len(phrase) - 2
    if kind == "choice":
        return known.choices.has_option(name, phrase[2])
    if kind == "deed":
        return name in known.deeds
    return True
