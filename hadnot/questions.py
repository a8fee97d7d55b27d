"""Questions, what they name, and their answers."""

from hadnot.errors import UnknownName
from hadnot.operations import gathered
from hadnot.ready import Known, missing_in_expression
from hadnot.scenes import asked
from hadnot.values import in_order, rank


class Found:
    """What a question finds in all worlds: rows of keys, the worth of where they are told, and worths."""

    def __init__(self, rows):
        self.rows = rows

    def __call__(self, world):
        return tuple([(keys, tuple([value(world) for value in values]))
                      for keys, told, values in self.rows if told(world)])

    def __len__(self):
        return len(self.rows)

    def __iter__(self):
        return iter(self.rows)


def place_behind(day, behind):
    """How many deeds stand up to the one that is named: all for None, none for the empty text."""
    if behind is None:
        return len(day)
    if behind == "":
        return 0
    if behind not in day:
        raise UnknownName(behind)
    return day.names.index(behind) + 1


def known_behind(day, place):
    """What may be named behind so many deeds."""
    rules = {name: len(params) for name, params, _ in day.rules}
    return Known(day.choices, day.all_tables, rules, day.names[:place])


def missing_in_question(question, known):
    """The names in a question that are not there, in the order of the text."""
    names = []
    pairs = question[1] if question[0] == "rows" else [question[1:3]]
    for _, table in pairs:
        if table not in known.tables:
            names.append(table)
    for expression in expressions_of(question):
        names.extend(missing_in_expression(expression, known))
    return names


def expressions_of(question):
    """The expressions of a question."""
    if question[0] == "rows":
        return [question[2], *question[3]]
    return [part for part in (question[3], question[4], question[6]) if part is not None]


def answered(question, scene):
    """The answer to a question in one world."""
    if question[0] == "rows":
        return answered_rows(question, scene)
    return answered_groups(question, scene)


def answered_rows(question, scene):
    """The keys and values of the rows, or pairs of rows, for which the condition is True."""
    _, pairs, condition, expressions = question
    told = []
    for keys in key_rows([scene.page.keys_in_order(table) for _, table in pairs]):
        local = {pair[0]: key for pair, key in zip(pairs, keys)}
        if asked(condition, scene, local) is True:
            values = [asked(expression, scene, local) for expression in expressions]
            told.append((keys, tuple(values)))
    return tuple(told)


def key_rows(columns):
    """All tuples with one key of each column, the first one first."""
    rows = [()]
    for keys in columns:
        rows = [(*row, key) for row in rows for key in keys]
    return rows


def answered_groups(question, scene):
    """The values by which the rows are put together, and what each group has."""
    _, name, table, condition, by, how, expression = question
    groups = {}
    heads = []
    for key in scene.page.keys_in_order(table):
        local = {name: key}
        head = asked(by, scene, local) if asked(condition, scene, local) is True else None
        if head is not None:
            heads.append(head)
            value = None if how == "count" else asked(expression, scene, local)
            groups.setdefault(rank(head), []).append(value)
    return tuple([((head,), (group_result(how, groups[rank(head)]),)) for head in in_order(heads)])


def group_result(how, values):
    """The count, sum, least or greatest of a group, or None."""
    total = None
    for value in values:
        total, word = gathered(how, total, value)
        if word is not None:
            return None
    return total
