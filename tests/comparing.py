"""What compares lifts with the runs of worlds ([1])."""

import unittest

from hadnot.plain import run
from hadnot.questions import Found
from helpers import ordered
from random_days import CELLS


class Comparing(unittest.TestCase):
    """Compares a lift with the runs of some worlds."""

    def alike(self, one, other):
        self.assertEqual(repr(one), repr(other))

    def compare(self, day, lift, worlds):
        views = [run(day, world) for world in worlds]
        for behind in ("", *day.names, None):
            for cell in (*CELLS, "nix"):
                worth = lift.value(cell, behind=behind)
                for world, view in zip(worlds, views):
                    self.alike(worth(world), view.value(cell, behind=behind))
            for table in day.all_tables:
                self.compare_rows(lift, table, behind, worlds, views)
        for name in day.names:
            self.compare_deed(lift, name, worlds, views)
        return views

    def compare_rows(self, lift, table, behind, worlds, views):
        keys = lift.keys_of(table, behind=behind)
        self.assertEqual(list(keys), ordered(keys))
        seen = {key for view in views for key in view.keys_of(table, behind=behind)}
        self.assertLessEqual(seen, set(keys))
        for key in (*keys, 77, "q"):
            stands, parts = lift.row_of(table, key, behind=behind)
            self.assertEqual(True in stands, key in keys)
            for world, view in zip(worlds, views):
                row = view.row_of(table, key, behind=behind)
                self.alike(stands(world), row is not None)
                self.alike(tuple(part(world) for part in parts), (None,) * len(parts) if row is None else row)

    def compare_deed(self, lift, name, worlds, views):
        row, word = lift.refusal(name)
        told = lift.told(name)
        for world, view in zip(worlds, views):
            self.alike(lift.is_there(name)(world), view.is_there(name))
            self.alike(lift.done(name)(world), view.done(name))
            self.alike((row(world), word(world)), view.refusal(name) or (None, None))
            self.alike(tuple((at, worth(world)) for at, _, worth in told if worth(world) is not None), view.told(name))
        for _, _, worth in told:
            self.assertNotEqual(worth.outcomes, (None,))

    def ask(self, maker, lift, worlds, views, behind):
        names = lift.day.names
        maker.deeds = list(names if behind is None else names[:0 if behind == "" else names.index(behind) + 1])
        for made in (maker.number(3), maker.truth(3)):
            worth = lift.ask(made, behind=behind)
            for world, view in zip(worlds, views):
                self.alike(worth(world), view.ask(made, behind=behind))
        question = maker.question()
        found = lift.answer(question, behind=behind)
        self.assertIsInstance(found, Found)
        for world, view in zip(worlds, views):
            self.alike(found(world), view.answer(question, behind=behind))
        for _, told, values in found:
            self.assertIn(True, told)
            self.assertEqual(told.outcomes, (False, True) if False in told else (True,))
            for value in values:
                self.assertEqual(value, value.limited(told))
