"""What stands in one world, and the values of expressions there."""

from hadnot.faults import Fault
from hadnot.operations import KIND, MISSING, gathered, operated
from hadnot.values import in_order


class Page:
    """The cells and the rows that stand at one place of a run."""

    def __init__(self, cells, tables):
        self.cells = cells
        self.tables = tables
        # Tables whose rows no other page shares.
        self._own = {}

    def copied(self):
        """A page that is written on instead of this one."""
        return Page(dict(self.cells), dict(self.tables))

    def rows_to_change(self, table):
        """The rows of a table, which only this page has."""
        if table not in self._own:
            self._own[table] = True
            self.tables[table] = dict(self.tables[table])
        return self.tables[table]

    def keys_in_order(self, table):
        """The keys of the rows of a table."""
        return in_order(list(self.tables[table]))


class Scene:
    """What expressions see in one world: rules by their names, and the deeds that were done."""

    def __init__(self, day, world, page, were_done):
        self.rules = {name: (params, expression) for name, params, expression in day.rules}
        self.places = {table: all_places(parts) for table, parts in day.all_tables.items()}
        self.options = world
        self.page = page
        self.were_done = were_done


def all_places(parts):
    """From each part of a table to its place."""
    return {part: place for place, part in enumerate(parts)}


def evaluated(expression, scene, local):
    """The value of an expression; Fault if it has one."""
    if isinstance(expression, int):
        return expression
    if isinstance(expression, str):
        return standing_value(expression, scene.page.cells)
    form = FORMS[expression[0]]
    return form(expression, scene, local)


def asked(expression, scene, local):
    """The value of an expression, None if it has a fault."""
    try:
        return evaluated(expression, scene, local)
    except Fault:
        return None


def standing_value(name, table):
    """The value of a cell or a local."""
    if name not in table:
        raise Fault(MISSING)
    return table[name]


def checked(told):
    """The value of an operation, if it has no fault."""
    value, word = told
    if word is not None:
        raise Fault(word)
    return value


def unless_truth(value):
    """A value that is no truth."""
    if isinstance(value, bool):
        raise Fault(KIND)
    return value


def only_truth(value):
    """A value that is a truth."""
    if not isinstance(value, bool):
        raise Fault(KIND)
    return value


def word_value(expression, scene, local):
    return expression[1]


def local_value(expression, scene, local):
    return standing_value(expression[1], local)


def part_value(expression, scene, local):
    _, table, key, part = expression
    rows = scene.page.tables[table]
    found = unless_truth(evaluated(key, scene, local))
    return standing_value(found, rows)[scene.places[table][part]]


def has_value(expression, scene, local):
    return expression[1] in scene.page.cells


def stands_value(expression, scene, local):
    found = unless_truth(evaluated(expression[2], scene, local))
    return found in scene.page.tables[expression[1]]


def done_value(expression, scene, local):
    return expression[1] in scene.were_done


def chosen_value(expression, scene, local):
    return scene.options[expression[1]] == expression[2]


def operation_value(expression, scene, local):
    sign, first, second = expression
    one = evaluated(first, scene, local)
    return checked(operated(sign, one, evaluated(second, scene, local)))


def and_or_value(expression, scene, local):
    sign, first, second = expression
    one = only_truth(evaluated(first, scene, local))
    if one == (sign == "or"):
        return one
    return only_truth(evaluated(second, scene, local))


def not_value(expression, scene, local):
    return not only_truth(evaluated(expression[1], scene, local))


def when_value(expression, scene, local):
    _, condition, one, other = expression
    holds = only_truth(evaluated(condition, scene, local))
    return evaluated(one if holds else other, scene, local)


def call_value(expression, scene, local):
    params, body = scene.rules[expression[1]]
    passed = [evaluated(value, scene, local) for value in expression[2:]]
    return evaluated(body, scene, dict(zip(params, passed)))


def rows_value(expression, scene, local):
    """The value of count, sum, low or high."""
    how, name, table, condition = expression[:4]
    total = None if how in ("low", "high") else 0
    inner = dict(local)
    for key in scene.page.keys_in_order(table):
        inner[name] = key
        if only_truth(evaluated(condition, scene, inner)):
            value = None if how == "count" else evaluated(expression[4], scene, inner)
            total = checked(gathered(how, total, value))
    if total is None:
        raise Fault(MISSING)
    return total


FORMS = {
    "word": word_value,
    "my": local_value,
    "part": part_value,
    "has": has_value,
    "stands": stands_value,
    "done": done_value,
    "chosen": chosen_value,
    "+": operation_value,
    "-": operation_value,
    "*": operation_value,
    "least": operation_value,
    "most": operation_value,
    "<": operation_value,
    "=": operation_value,
    "and": and_or_value,
    "or": and_or_value,
    "not": not_value,
    "when": when_value,
    "call": call_value,
    "count": rows_value,
    "sum": rows_value,
    "low": rows_value,
    "high": rows_value,
}
