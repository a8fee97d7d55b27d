"""What questions find in all worlds."""

from hadnot.leaves import FALSE, NONE, TRUE
from hadnot.liftscenes import lifted, live
from hadnot.questions import Found, key_rows
from hadnot.values import in_order, rank


def found_in(question, scene):
    """What a question finds on the sheet of a scene."""
    if question[0] == "rows":
        return Found(found_rows(question, scene))
    return Found(found_groups(question, scene))


def found_rows(question, scene):
    """The rows, or pairs of rows, for which the condition is True in some world."""
    _, pairs, condition, expressions = question
    pool = scene.pool
    found = []
    for keys in key_rows([scene.sheet.keys_in_order(table) for _, table in pairs]):
        here = TRUE
        local = {}
        for (name, table), key in zip(pairs, keys):
            here = pool.crossed("both", here, scene.sheet.tables[table][key][0])
            local[name] = pool.of_value(key)
        told = scene.look(scene.where_is(lifted(condition, here, local, scene), True))
        if told != FALSE:
            values = [pool.worth(lifted(expression, told, local, scene)) for expression in expressions]
            found.append((keys, pool.worth(told), tuple(values)))
    return tuple(found)


class Group:
    """The rows with one value of a question: where it is told, what comes of them, where nothing can."""

    def __init__(self, head):
        self.head = head
        self.where = FALSE
        self.total = NONE
        self.failed = FALSE

    def take(self, how, where, value, scene):
        """Take a row in that has the value in some worlds."""
        pool = scene.pool
        self.where = scene.look(pool.crossed("either", self.where, where))
        given = pool.crossed("cut", value, where)
        total = scene.settled(pool.crossed(how, self.total, given))
        worked = pool.crossed("both", live(given, scene), live(total, scene))
        self.failed = pool.crossed("either", self.failed, pool.crossed("minus", where, worked))
        self.total = scene.look(pool.crossed("cut", total, pool.crossed("minus", self.where, self.failed)))


def found_groups(question, scene):
    """The values by which rows are put together in some world."""
    _, name, table, condition, by, how, expression = question
    pool = scene.pool
    groups = {}
    for key in scene.sheet.keys_in_order(table):
        local = {name: pool.of_value(key)}
        here = scene.sheet.tables[table][key][0]
        here = scene.where_is(lifted(condition, here, local, scene), True)
        heads = lifted(by, here, local, scene)
        value = TRUE if how == "count" else lifted(expression, live(heads, scene), local, scene)
        for kind, head in pool.leaves_of(heads):
            if kind != "none":
                group = groups.setdefault(rank(head), Group(head))
                group.take(how, scene.where_is(heads, head), value, scene)
    rows = []
    for head in in_order([group.head for group in groups.values()]):
        group = groups[rank(head)]
        rows.append(((head,), pool.worth(group.where), (pool.worth(group.total),)))
    return tuple(rows)
