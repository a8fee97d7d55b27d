"""What stands in all worlds, and the worths of expressions there, as nodes of a pool."""

from hadnot.errors import TooWide
from hadnot.leaves import FALSE, NONE, TRUE
from hadnot.scenes import all_places
from hadnot.values import in_order

# A table has at most so many keys that stand in some world.
MOST_KEYS = 16


class Sheet:
    """The cells and the rows that stand at one place of a run.

    A row is a pair: where it stands, and its parts, None elsewhere. Only rows that
    stand in some world are kept.
    """

    def __init__(self, cells, tables):
        self.cells = cells
        self.tables = tables
        # Tables whose rows no other sheet shares.
        self._own = {}

    def copied(self):
        """A sheet that is written on instead of this one."""
        return Sheet(dict(self.cells), dict(self.tables))

    def rows_to_change(self, table):
        """The rows of a table, which only this sheet has."""
        if table not in self._own:
            self._own[table] = True
            self.tables[table] = dict(self.tables[table])
        return self.tables[table]

    def keys_in_order(self, table):
        """The keys that stand in some world."""
        return in_order(list(self.tables[table]))

    def is_crowded(self):
        """Whether a table has too many keys."""
        return any([len(rows) > MOST_KEYS for rows in self.tables.values()])


class LiftScene:
    """What expressions see in all worlds, and how far the run has come."""

    def __init__(self, day, pool, sheet, were_done):
        self.rules = {name: (params, expression) for name, params, expression in day.rules}
        self.places = {table: all_places(parts) for table, parts in day.all_tables.items()}
        self.pool = pool
        self.sheet = sheet
        # From each deed ahead to the node of where it was done.
        self.were_done = were_done
        # What TooWide tells.
        self.deed = ""
        self.row = 0
        # The words of the faults in the row so far; questions do not ask for them.
        self.keeps_faults = False
        self.faults = NONE

    def look(self, node):
        """A node that must not be too wide."""
        if self.pool.is_wide(node):
            raise TooWide(self.deed, self.row)
        return node

    def settled(self, node):
        """The values of an operation, without its faults."""
        if not self.pool.faulty[node]:
            return node
        if self.keeps_faults:
            self.faults = self.pool.crossed("fill", self.faults, self.pool.crossed("fault", node))
        return self.pool.crossed("value", node)

    def truth(self, node):
        """The truths of a node; other values are faults."""
        return self.settled(self.pool.crossed("truth", node))

    def untrue(self, node):
        """The values of a node; truths are faults."""
        return self.settled(self.pool.crossed("untrue", node))

    def where_is(self, node, value):
        """Where a node has a value."""
        return self.pool.crossed("is", node, self.pool.of_value(value))

    def keys_met(self, node, table):
        """The rows of a table that a node of keys meets: triples of the key, where it is met, and the row."""
        rows = self.sheet.tables[table]
        met = in_order([value for kind, value in self.pool.leaves_of(node) if value in rows])
        return [(key, self.where_is(node, key), rows[key]) for key in met]


def lifted(expression, here, local, scene):
    """The values of an expression in the worlds in which it is evaluated, None elsewhere and at a fault.

    Locals are nodes by their names.
    """
    if here == FALSE:
        return NONE
    if isinstance(expression, int):
        node = scene.pool.crossed("cut", scene.pool.of_value(expression), here)
    elif isinstance(expression, str):
        node = where_standing(scene.sheet.cells.get(expression, NONE), here, scene)
    else:
        form = FORMS[expression[0]]
        node = form(expression, here, local, scene)
    return scene.look(node)


def where_standing(node, here, scene):
    """The values of a node; where it has none, that is a fault."""
    return scene.settled(scene.pool.crossed("read", node, here))


def live(node, scene):
    """Where a node has a value."""
    return scene.pool.crossed("known", node)


def word_worth(expression, here, local, scene):
    return scene.pool.crossed("cut", scene.pool.of_value(expression[1]), here)


def local_worth(expression, here, local, scene):
    return where_standing(local.get(expression[1], NONE), here, scene)


def part_worth(expression, here, local, scene):
    _, table, key, part = expression
    found = scene.untrue(lifted(key, here, local, scene))
    place = scene.places[table][part]
    node = NONE
    for _, met, (_, parts) in scene.keys_met(found, table):
        node = scene.pool.crossed("fill", node, scene.pool.crossed("cut", parts[place], met))
    return where_standing(node, live(found, scene), scene)


def has_worth(expression, here, local, scene):
    return scene.pool.crossed("present", scene.sheet.cells.get(expression[1], NONE), here)


def stands_worth(expression, here, local, scene):
    _, table, key = expression
    found = scene.untrue(lifted(key, here, local, scene))
    node = FALSE
    for _, met, (stands, _) in scene.keys_met(found, table):
        node = scene.pool.crossed("either", node, scene.pool.crossed("both", met, stands))
    return scene.pool.crossed("cut", node, live(found, scene))


def done_worth(expression, here, local, scene):
    return scene.pool.crossed("cut", scene.were_done[expression[1]], here)


def chosen_worth(expression, here, local, scene):
    _, name, option = expression
    many = scene.pool.choices[name]
    node = scene.pool.by_choice(name, [at == option for at in range(many)])
    return scene.pool.crossed("cut", node, here)


def operation_worth(expression, here, local, scene):
    sign, first, second = expression
    one = lifted(first, here, local, scene)
    other = lifted(second, live(one, scene), local, scene)
    return scene.settled(scene.pool.crossed(sign, one, other))


def and_or_worth(expression, here, local, scene):
    sign, first, second = expression
    one = scene.truth(lifted(first, here, local, scene))
    other = lifted(second, scene.where_is(one, sign == "and"), local, scene)
    return scene.settled(scene.pool.crossed(sign, one, other))


def not_worth(expression, here, local, scene):
    return scene.pool.crossed("not", scene.truth(lifted(expression[1], here, local, scene)))


def when_worth(expression, here, local, scene):
    _, condition, one, other = expression
    holds = scene.truth(lifted(condition, here, local, scene))
    first = lifted(one, scene.where_is(holds, True), local, scene)
    return scene.pool.crossed("fill", first, lifted(other, scene.where_is(holds, False), local, scene))


def call_worth(expression, here, local, scene):
    params, body = scene.rules[expression[1]]
    passed = []
    for value in expression[2:]:
        passed.append(lifted(value, here, local, scene))
        here = live(passed[-1], scene)
    return lifted(body, here, dict(zip(params, passed)), scene)


def rows_worth(expression, here, local, scene):
    """The worth of count, sum, low or high."""
    how, name, table = expression[:3]
    pool = scene.pool
    total = NONE if how in ("low", "high") else pool.crossed("cut", pool.of_value(0), here)
    inner = dict(local)
    for key in scene.sheet.keys_in_order(table):
        turn = pool.crossed("both", here, scene.sheet.tables[table][key][0])
        if turn != FALSE:
            inner[name] = pool.of_value(key)
            total, failed = behind_row(expression, turn, inner, total, scene)
            here = pool.crossed("minus", here, failed)
            total = scene.look(pool.crossed("cut", total, here))
    return where_standing(total, here, scene)


def behind_row(expression, turn, inner, total, scene):
    """What count and the like have behind one more row, and where they have come to a fault."""
    pool = scene.pool
    condition = scene.truth(lifted(expression[3], turn, inner, scene))
    counted = scene.where_is(condition, True)
    value = counted if expression[0] == "count" else lifted(expression[4], counted, inner, scene)
    if expression[0] == "count":
        value = pool.crossed("cut", TRUE, counted)
    total = scene.settled(pool.crossed(expression[0], total, value))
    summed = pool.crossed("both", live(value, scene), live(total, scene))
    failed = pool.crossed("minus", turn, live(condition, scene))
    return total, pool.crossed("either", failed, pool.crossed("minus", counted, summed))


FORMS = {
    "word": word_worth,
    "my": local_worth,
    "part": part_worth,
    "has": has_worth,
    "stands": stands_worth,
    "done": done_worth,
    "chosen": chosen_worth,
    "+": operation_worth,
    "-": operation_worth,
    "*": operation_worth,
    "least": operation_worth,
    "most": operation_worth,
    "<": operation_worth,
    "=": operation_worth,
    "and": and_or_worth,
    "or": and_or_worth,
    "not": not_worth,
    "when": when_worth,
    "call": call_worth,
    "count": rows_worth,
    "sum": rows_worth,
    "low": rows_worth,
    "high": rows_worth,
}
