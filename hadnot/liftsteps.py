"""Sayings that run in all worlds."""

from hadnot.errors import TooWide
from hadnot.leaves import FALSE, NONE, TRUE
from hadnot.liftscenes import lifted, live
from hadnot.operations import MISSING, NEED, THERE
from hadnot.phrases import numbered


class LiftDoing:
    """One saying that runs, in the worlds in which it does."""

    def __init__(self, scene, runs, stays, stop):
        self.scene = scene
        self.pool = scene.pool
        self.sheet = scene.sheet
        self.runs = runs
        # From the numbers of rows that may be left out to where they are not.
        self.stays = stays
        # The pairs of row and word that have stopped the sayings of the deed so far.
        self.stop = stop
        self.local = {}
        # The keys of the loops around the row that runs now, from the outermost one.
        self.around = ()
        # Triples of a row that told something, the keys around it, and what it told.
        self.tellings = []

    def go(self, rows, here):
        """Run rows, as hadnot.phrases numbers them, in some worlds."""
        for number, row, blocks in rows:
            come = self.pool.crossed("both", self.unstopped(here), self.stays.get(number, TRUE))
            if come != FALSE:
                self.scene.row = number
                self.scene.look(come)
                effect = EFFECTS[row[0]]
                effect(row, blocks, come, self)
                self.close_row()

    def unstopped(self, here):
        """The worlds of some in which the saying has not stopped."""
        return self.pool.crossed("minus", here, self.pool.crossed("known", self.stop))

    def close_row(self):
        """Stop the saying where the row has come to a fault, and look at what stands behind it."""
        scene = self.scene
        if self.sheet.is_crowded():
            raise TooWide(scene.deed, scene.row)
        if scene.faults != NONE:
            stopped = self.pool.crossed("stop", scene.faults, self.pool.of_value(scene.row))
            scene.faults = NONE
            self.stop = scene.look(self.pool.crossed("fill", self.stop, stopped))

    def result(self, expression, here):
        """The node of an expression in some worlds."""
        return lifted(expression, here, self.local, self.scene)

    def refuse(self, where, word):
        """A fault of the row in some worlds."""
        if where != FALSE:
            pool = self.pool
            told = pool.crossed("cut", pool.leaf(("fault", word)), where)
            self.scene.faults = pool.crossed("fill", self.scene.faults, told)

    def checked_keys(self, node, here, others):
        """The values of a node in some worlds in which neither it nor others have a truth."""
        for other in others:
            here = live(self.scene.untrue(self.pool.crossed("cut", other, here)), self.scene)
        return self.scene.untrue(self.pool.crossed("cut", node, here))

    def write_row(self, table, key, stands, parts):
        """Let a row stand in some worlds, with these parts there."""
        for node in (stands, *parts):
            self.scene.look(node)
        rows = self.sheet.rows_to_change(table)
        if stands != FALSE:
            rows[key] = (stands, parts)
        else:
            del rows[key]


def let_row(row, blocks, come, doing):
    _, name, expression = row
    value = doing.result(expression, come)
    doing.local[name] = doing.pool.crossed("fill", value, doing.local.get(name, NONE))
    doing.close_row()
    doing.scene.look(doing.pool.crossed("cut", doing.local[name], doing.unstopped(doing.runs)))


def put_row(row, blocks, come, doing):
    _, cell, expression = row
    value = doing.scene.untrue(doing.result(expression, come))
    cells = doing.sheet.cells
    cells[cell] = doing.scene.look(doing.pool.crossed("fill", value, cells.get(cell, NONE)))


def drop_row(row, blocks, come, doing):
    cells = doing.sheet.cells
    before = cells.get(row[1], NONE)
    stood = live(before, doing.scene)
    doing.refuse(doing.pool.crossed("minus", come, stood), MISSING)
    left = doing.pool.crossed("minus", stood, come)
    cells[row[1]] = doing.scene.look(doing.pool.crossed("cut", before, left))


def insert_row(row, blocks, come, doing):
    _, table, key, expressions = row
    pool = doing.pool
    found = doing.result(key, come)
    values = []
    here = live(found, doing.scene)
    for expression in expressions:
        values.append(doing.result(expression, here))
        here = live(values[-1], doing.scene)
    found = doing.checked_keys(found, here, values)
    for kind, name in pool.leaves_of(found):
        if kind != "none":
            met = doing.scene.where_is(found, name)
            stands, parts = doing.sheet.tables[table].get(name, (FALSE, (NONE,) * len(values)))
            doing.refuse(pool.crossed("both", met, stands), THERE)
            made = pool.crossed("minus", met, stands)
            filled = [pool.crossed("fill", pool.crossed("cut", value, made), part)
                      for value, part in zip(values, parts)]
            doing.write_row(table, name, pool.crossed("either", stands, made), tuple(filled))
            if doing.sheet.is_crowded():
                raise TooWide(doing.scene.deed, doing.scene.row)


def change_row(row, blocks, come, doing):
    _, table, key, part, expression = row
    pool = doing.pool
    found = doing.result(key, come)
    value = doing.result(expression, live(found, doing.scene))
    found = doing.checked_keys(found, live(value, doing.scene), [value])
    place = doing.scene.places[table][part]
    missing = live(found, doing.scene)
    for name, met, (stands, parts) in doing.scene.keys_met(found, table):
        there = pool.crossed("both", met, stands)
        missing = pool.crossed("minus", missing, there)
        changed = pool.crossed("fill", pool.crossed("cut", value, there), parts[place])
        doing.write_row(table, name, stands, (*parts[:place], changed, *parts[place + 1:]))
    doing.refuse(missing, MISSING)


def delete_row(row, blocks, come, doing):
    _, table, key = row
    pool = doing.pool
    found = doing.scene.untrue(doing.result(key, come))
    missing = live(found, doing.scene)
    for name, met, (stands, parts) in doing.scene.keys_met(found, table):
        missing = pool.crossed("minus", missing, pool.crossed("both", met, stands))
        left = pool.crossed("minus", stands, met)
        doing.write_row(table, name, left, tuple([pool.crossed("cut", part, left) for part in parts]))
    doing.refuse(missing, MISSING)


def if_row(row, blocks, come, doing):
    holds = doing.scene.truth(doing.result(row[1], come))
    doing.close_row()
    doing.go(blocks[0], doing.scene.where_is(holds, True))
    doing.go(blocks[1], doing.scene.where_is(holds, False))


def each_row(row, blocks, come, doing):
    _, name, table, _ = row
    pool = doing.pool
    rows = doing.sheet.tables[table]
    turns = [(key, pool.crossed("both", come, rows[key][0])) for key in doing.sheet.keys_in_order(table)]
    before = doing.local.get(name, NONE)
    around = doing.around
    doing.close_row()
    for key, turn in turns:
        doing.local[name] = pool.crossed("cut", pool.of_value(key), turn)
        doing.around = (*around, key)
        doing.go(blocks[0], turn)
    doing.local[name] = before
    doing.around = around


def need_row(row, blocks, come, doing):
    holds = doing.scene.truth(doing.result(row[1], come))
    doing.refuse(doing.scene.where_is(holds, False), NEED)


def tell_row(row, blocks, come, doing):
    value = doing.result(row[1], come)
    doing.tellings.append((doing.scene.row, doing.around, value))


EFFECTS = {
    "let": let_row,
    "put": put_row,
    "drop": drop_row,
    "insert": insert_row,
    "change": change_row,
    "delete": delete_row,
    "if": if_row,
    "each": each_row,
    "need": need_row,
    "tell": tell_row,
}


class LiftEnding:
    """How a deed ended: where it is there and was done, where and how it was refused, what it told."""

    def __init__(self, there, was_done, fault, tellings):
        self.there = there
        self.was_done = was_done
        self.fault = fault
        self.tellings = tellings


def lift_deed(deed, there, scene):
    """Run the sayings of a deed on the sheet of a scene; the ending."""
    pool = scene.pool
    scene.deed = deed.name
    scene.keeps_faults = True
    stop = NONE
    filled = FALSE
    tellings = []
    for option, saying in enumerate(deed.sayings):
        runs = there
        if deed.choice is not None:
            many = len(deed.sayings)
            chosen = pool.by_choice(deed.choice, [at == option for at in range(many)])
            runs = pool.crossed("both", there, chosen)
        stays = {}
        if option == deed.opened:
            stays = {row: pool.by_choice(name, (True, False)) for row, name in enumerate(deed.row_choices())}
        doing = LiftDoing(scene, runs, stays, stop)
        doing.go(numbered(saying), runs)
        stop = doing.stop
        tellings.extend(doing.tellings)
        if saying:
            filled = pool.crossed("either", filled, runs)
    refused = pool.crossed("known", stop)
    kept = [(row, keys, pool.crossed("cut", node, pool.crossed("minus", TRUE, refused)))
            for row, keys, node in tellings]
    kept = [telling for telling in kept if telling[2] != NONE]
    return LiftEnding(there, pool.crossed("minus", filled, refused), stop, kept)
