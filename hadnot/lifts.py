"""Days on worths: a run in all worlds at once."""

from hadnot.errors import TooWide, UnknownName, Unready
from hadnot.finds import found_in
from hadnot.leaves import FALSE, NONE, TRUE
from hadnot.liftscenes import LiftScene, Sheet, lifted
from hadnot.liftsteps import lift_deed
from hadnot.phrases import many_rows
from hadnot.pools import Pool
from hadnot.questions import known_behind, missing_in_question, place_behind
from hadnot.ready import missing_in_expression
from hadnot.values import kind_of


class Lift:
    """The states behind the deeds of a day in all worlds, and how the deeds ended."""

    def __init__(self, day):
        self.day = day
        self._pool = Pool(day.choices)
        # The sheet of the beginning, then the one behind each deed.
        self._sheets = [lift_beginning(day, self._pool)]
        self._endings = {}
        self._were_done = {}
        for deed in day.deeds:
            self._add_deed(deed)
        self._pool.forget()

    def _add_deed(self, deed):
        before = self._sheets[-1]
        scene = LiftScene(self.day, self._pool, before.copied(), self._were_done)
        ending = lift_deed(deed, where_all(deed.only, self._pool), scene)
        take_back(before, scene, self._pool.crossed("known", ending.fault))
        scene.row = max([many_rows(saying) for saying in deed.sayings])
        look_at_sheet(scene)
        self._sheets.append(scene.sheet)
        self._endings[deed.name] = ending
        self._were_done = {**self._were_done, deed.name: ending.was_done}

    def value(self, cell, *, behind=None):
        """The worth of a cell, None where it is not there."""
        sheet = self._sheets[place_behind(self.day, behind)]
        return self._pool.worth(sheet.cells.get(cell, NONE))

    def __getitem__(self, cell):
        return self.value(cell)

    def __contains__(self, cell):
        return self._sheets[-1].cells.get(cell, NONE) != NONE

    def __iter__(self):
        raise TypeError("lifts cannot be iterated over")

    def keys_of(self, table, *, behind=None):
        """The keys of a table that stand in some world."""
        return tuple(self._sheet_with(table, behind).keys_in_order(table))

    def row_of(self, table, key, *, behind=None):
        """The worth of where a row stands, and the worths of its parts."""
        rows = self._sheet_with(table, behind).tables[table]
        stands, parts = FALSE, [NONE for _ in self.day.all_tables[table]]
        # For Python True is the key 1.
        if kind_of(key) in ("number", "word") and key in rows:
            stands, parts = rows[key]
        return self._pool.worth(stands), tuple([self._pool.worth(part) for part in parts])

    def is_there(self, deed):
        """Where a deed is there."""
        return self._pool.worth(self._ending(deed).there)

    def done(self, deed):
        """Where a deed was done."""
        return self._pool.worth(self._ending(deed).was_done)

    def refusal(self, deed):
        """The worths of the row and the word with which a deed was refused."""
        fault = self._ending(deed).fault
        return tuple([self._pool.worth(self._pool.crossed(sign, fault)) for sign in ("stop row", "stop word")])

    def told(self, deed):
        """The rows that told something, the keys of the loops around them, and what they told."""
        tellings = self._ending(deed).tellings
        return tuple([(row, keys, self._pool.worth(node)) for row, keys, node in tellings])

    def ask(self, expression, *, behind=None):
        """The worth of an expression, None where it has a fault."""
        place = place_behind(self.day, behind)
        for name in missing_in_expression(expression, known_behind(self.day, place)):
            raise Unready("", name)
        return self._pool.worth(lifted(expression, TRUE, {}, self._scene(place)))

    def answer(self, question, *, behind=None):
        """What a question finds."""
        place = place_behind(self.day, behind)
        for name in missing_in_question(question, known_behind(self.day, place)):
            raise Unready("", name)
        return found_in(question, self._scene(place))

    def slot_nodes(self, behind):
        """From each cell, and from each table, key and part, to its node behind a deed."""
        sheet = self._sheets[place_behind(self.day, behind)]
        parts_of = self.day.all_tables
        nodes = dict(sheet.cells)
        for table, rows in sheet.tables.items():
            for key, (_, parts) in rows.items():
                for part, node in zip(parts_of[table], parts):
                    nodes[table, key, part] = node
        return nodes

    def worth_of(self, node):
        """The worth of a node that slot_nodes tells."""
        return self._pool.worth(node)

    def _scene(self, place):
        return LiftScene(self.day, self._pool, self._sheets[place], self._were_done)

    def _sheet_with(self, table, behind):
        sheet = self._sheets[place_behind(self.day, behind)]
        if table not in sheet.tables:
            raise UnknownName(table)
        return sheet

    def _ending(self, deed):
        if deed not in self._endings:
            raise UnknownName(deed)
        return self._endings[deed]


def lift_beginning(day, pool):
    """The sheet of the beginning."""
    cells = {}
    for name, value in day.all_cells.items():
        if isinstance(value, tuple):
            choice, values = value
            cells[name] = pool.by_choice(choice, values)
        else:
            cells[name] = pool.of_value(value)
    tables = {table: {} for table in day.all_tables}
    for (table, key), (values, only) in day.all_rows.items():
        stands = where_all(only, pool)
        if stands != FALSE:
            parts = [pool.crossed("cut", pool.of_value(value), stands) for value in values]
            tables[table][key] = (stands, tuple(parts))
    return Sheet(cells, tables)


def where_all(pairs, pool):
    """Where all choices of some pairs have their options."""
    node = TRUE
    for name, option in pairs:
        chosen = pool.by_choice(name, [at == option for at in range(pool.choices[name])])
        node = pool.crossed("both", node, chosen)
    return node


def take_back(before, scene, refused):
    """Take back what was written on the sheet of a scene where the deed was refused."""
    if refused == FALSE:
        return
    sheet = scene.sheet
    for cell in list(sheet.cells):
        sheet.cells[cell] = either_node(scene.pool, refused, before.cells.get(cell, NONE), sheet.cells[cell])
    for table in list(sheet.tables):
        if sheet.tables[table] != before.tables[table]:
            take_rows_back(table, before, scene, refused)


def take_rows_back(table, before, scene, refused):
    """Take back what was written on a table."""
    pool = scene.pool
    written = scene.sheet.rows_to_change(table)
    many = len(scene.places[table])
    absent = (FALSE, (NONE,) * many)
    for key in [*written, *[key for key in before.tables[table] if key not in written]]:
        stands, parts = written.get(key, absent)
        stood, had = before.tables[table].get(key, absent)
        stands = either_node(pool, refused, stood, stands)
        parts = tuple([either_node(pool, refused, old, new) for old, new in zip(had, parts)])
        if stands != FALSE:
            written[key] = (stands, parts)
        elif key in written:
            del written[key]


def either_node(pool, where, one, other):
    """One node where something is True, another one elsewhere."""
    if one == other:
        return one
    return pool.crossed("fill", pool.crossed("cut", one, where),
                        pool.crossed("cut", other, pool.crossed("minus", TRUE, where)))


def look_at_sheet(scene):
    """Look at all that stands on the sheet of a scene."""
    for node in scene.sheet.cells.values():
        scene.look(node)
    for rows in scene.sheet.tables.values():
        for stands, parts in rows.values():
            for node in (stands, *parts):
                scene.look(node)
    if scene.sheet.is_crowded():
        raise TooWide(scene.deed, scene.row)
