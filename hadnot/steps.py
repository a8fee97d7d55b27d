"""Sayings that run in one world."""

from hadnot.faults import Fault
from hadnot.operations import MISSING, NEED, THERE
from hadnot.phrases import numbered
from hadnot.scenes import evaluated, only_truth, unless_truth


class Doing:
    """One saying that runs on the page of a scene, but for rows that are left out."""

    def __init__(self, scene, left):
        self.scene = scene
        self.left = left
        self.page = scene.page
        self.local = {}
        self.tellings = []
        # The number of the row that runs now.
        self.row = 0

    def go(self, rows):
        """Run rows, as hadnot.phrases numbers them."""
        for number, row, blocks in rows:
            if number not in self.left:
                self.row = number
                effect = EFFECTS[row[0]]
                effect(row, blocks, self)

    def result(self, expression):
        """The value of an expression."""
        return evaluated(expression, self.scene, self.local)


def let_row(row, blocks, doing):
    doing.local[row[1]] = doing.result(row[2])


def put_row(row, blocks, doing):
    doing.page.cells[row[1]] = unless_truth(doing.result(row[2]))


def drop_row(row, blocks, doing):
    if row[1] not in doing.page.cells:
        raise Fault(MISSING)
    del doing.page.cells[row[1]]


def insert_row(row, blocks, doing):
    _, table, key, parts = row
    found = doing.result(key)
    values = [doing.result(part) for part in parts]
    for value in [found, *values]:
        unless_truth(value)
    if found in doing.page.tables[table]:
        raise Fault(THERE)
    doing.page.rows_to_change(table)[found] = tuple(values)


def change_row(row, blocks, doing):
    _, table, key, part, expression = row
    found = doing.result(key)
    value = doing.result(expression)
    unless_truth(found)
    unless_truth(value)
    if found not in doing.page.tables[table]:
        raise Fault(MISSING)
    rows = doing.page.rows_to_change(table)
    place = doing.scene.places[table][part]
    rows[found] = (*rows[found][:place], value, *rows[found][place + 1:])


def delete_row(row, blocks, doing):
    found = unless_truth(doing.result(row[2]))
    if found not in doing.page.tables[row[1]]:
        raise Fault(MISSING)
    del doing.page.rows_to_change(row[1])[found]


def if_row(row, blocks, doing):
    holds = only_truth(doing.result(row[1]))
    doing.go(blocks[0 if holds else 1])


def each_row(row, blocks, doing):
    _, name, table, _ = row
    stood = name in doing.local
    before = doing.local.get(name)
    for key in doing.page.keys_in_order(table):
        doing.local[name] = key
        doing.go(blocks[0])
    if stood:
        doing.local[name] = before
    elif name in doing.local:
        del doing.local[name]


def need_row(row, blocks, doing):
    if not only_truth(doing.result(row[1])):
        raise Fault(NEED)


def tell_row(row, blocks, doing):
    doing.tellings.append((doing.row, doing.result(row[1])))


EFFECTS = {
    "let": let_row,
    "put": put_row,
    "drop": drop_row,
    "insert": insert_row,
    "change": change_row,
    "delete": delete_row,
    "if": if_row,
    "each": each_row,
    "need": need_row,
    "tell": tell_row,
}


class Ending:
    """How a deed ended in one world: what it told, and the row and the word of its fault."""

    def __init__(self, there, was_done, tellings, fault):
        self.there = there
        self.was_done = was_done
        self.tellings = tellings
        self.fault = fault


def ended(saying, left, scene):
    """How a saying ends on the page of a scene, but for rows that are left out."""
    doing = Doing(scene, left)
    try:
        doing.go(numbered(saying))
    except Fault as fault:
        return Ending(True, False, (), (doing.row, fault.reason))
    return Ending(True, len(saying) > 0, tuple(doing.tellings), None)
