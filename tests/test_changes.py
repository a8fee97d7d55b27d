"""What changes from one lift to another ([42]), against all worlds and slots gone through."""

import unittest

from hadnot.changes import changes
from hadnot.days import Day, Deed
from hadnot.errors import Unready
from hadnot.lifts import Lift
from hadnot.opened import opened
from hadnot.plain import run
from helpers import all_worlds, drawn, ordered
from random_days import CELLS, Maker
from test_days import example


class Slots:
    """The nodes of all slots of a day behind its deeds, drawn from the runs of all worlds."""

    def __init__(self, day):
        self.day = day
        self.worlds = all_worlds(day.choices)
        self.views = {tuple(world.items()): run(day, world) for world in self.worlds}

    def keys(self, table, deed):
        if table not in self.day.all_tables:
            return []
        return [key for view in self.views.values() for key in view.keys_of(table, behind=deed)]

    def nodes(self, slot, deed):
        return drawn(self.day.choices, lambda world: self.value(self.views[tuple(world.items())], slot, deed))

    def value(self, view, slot, deed):
        if isinstance(slot, str):
            return view.value(slot, behind=deed)
        table, key, part = slot
        if part not in self.day.all_tables.get(table, ()):
            return None
        row = view.row_of(table, key, behind=deed)
        return None if row is None else row[self.day.all_tables[table].index(part)]


def changes_by_hand(one, other, cells=CELLS):
    first, second = Slots(one), Slots(other)
    told = []
    for deed in other.names:
        if deed in one:
            slots = sorted(cells)
            for table in sorted({*one.all_tables, *other.all_tables}):
                parts = list(other.all_tables.get(table, ()))
                parts += [part for part in one.all_tables.get(table, ()) if part not in parts]
                for key in ordered([*first.keys(table, deed), *second.keys(table, deed)]):
                    slots.extend((table, key, part) for part in parts)
            told.extend((deed, slot) for slot in slots
                        if repr(first.nodes(slot, deed)) != repr(second.nodes(slot, deed)))
    return tuple(told)


def edited(day, maker):
    """The day behind a few edits at random."""
    for _ in range(maker.rows.randrange(1, 4)):
        edit = maker.pick(("cell", "cell", "row", "row", "without", "move", "take", "deed", "saying", "choice", "stand", "open"))
        name = maker.pick(day.names) if day.names else None
        maker.deeds = []
        try:
            if edit == "cell":
                day = day.with_cell(maker.pick(CELLS), maker.pick((1, 2, "k", None)))
            elif edit == "row":
                day = day.with_row("t", maker.pick((0, 1, 9, "k")), (maker.value(), maker.value()), only=maker.only())
            elif edit == "without":
                day = day.without_row(*maker.pick(day.all_rows))
            elif edit == "choice":
                day = day.with_choice("more", 2)
            elif edit == "stand":
                day = day.stands(*maker.pair())
            elif edit == "deed":
                day = day.with_deed(Deed("new", [maker.saying(1, 3)]), maker.rows.randrange(len(day) + 1))
            elif edit == "take":
                day = day.without_deed(name)
            elif edit == "move":
                day = day.moved(name, maker.rows.randrange(len(day)))
            elif edit == "open":
                day = day if len(day[name].sayings[0]) > 2 else opened(day, name)
            else:
                day = day.with_saying(name, 0, maker.saying(1, 4))
        except (KeyError, IndexError, ValueError):
            continue
    return day


def with_parts(day, table, parts):
    """The day with other parts of a table, whose values go with their names; new parts are 0."""
    made = Day()
    for name in day.choices.names:
        made = made.with_choice(name, day.choices[name])
    for name in day.all_tables:
        made = made.with_table(name, parts if name == table else day.all_tables[name])
    for name, value in day.all_cells.items():
        made = made.with_cell(name, value[1], choice=value[0]) if isinstance(value, tuple) else made.with_cell(name, value)
    for (name, key), (values, only) in day.all_rows.items():
        if name == table:
            named = dict(zip(day.all_tables[table], values))
            values = [named.get(part, 0) for part in parts]
        made = made.with_row(name, key, values, only=only)
    for deed in day.deeds:
        made = made.with_deed(deed)
    return made


class ChangesTest(unittest.TestCase):
    def check(self, one, other, cells=CELLS):
        """The changes in both directions; how many there are."""
        many = 0
        for first, second in ((one, other), (other, one)):
            got = changes(Lift(first), Lift(second))
            self.assertIsInstance(got, tuple)
            self.assertEqual(repr(got), repr(changes_by_hand(first, second, cells)))
            many += len(got)
        return many

    def test_example(self):
        one = example()
        other = one.with_cell("cash", 11)
        self.assertEqual(changes(Lift(one), Lift(other)), (("pay", "cash"), ("shop", "cash")))
        self.assertEqual(changes(one=Lift(one), other=Lift(one.moved("shop", 0))), (("shop", "cash"), ("pay", "cash")))
        self.assertEqual(changes(Lift(one), Lift(one)), ())
        self.assertEqual(changes(Lift(one), Lift(example())), ())
        self.assertEqual(changes(Lift(Day()), Lift(one)), ())
        self.assertEqual(changes(Lift(one), Lift(one.stands("tip", 1).with_choice("idle", 2))), ())

    def test_at_random(self):
        found, none = 0, 0
        for seed in range(120):
            maker = Maker(seed)
            one = maker.day(choices=2, deeds=3)
            many = self.check(one, edited(one, maker))
            found += many
            none += many == 0
        self.assertGreater(found, 600)
        self.assertGreater(none, 10)

    def test_cells(self):
        day = Day().with_choice("a", 2).with_cell("b", 1).with_cell("c", 2).with_deed(Deed("d", [[("put", "x", 1)]]))
        other = day.with_cell("b", (1, 5), choice="a").with_cell("c", None).with_cell("a", 3)
        self.assertEqual(changes(Lift(day), Lift(other)), (("d", "a"), ("d", "b"), ("d", "c")))
        # A cell that is not there counts as None in all worlds.
        other = day.with_cell("z", (None, None), choice="a")
        self.assertEqual(changes(Lift(day), Lift(other)), ())
        gone = day.without_deed("d").with_deed(Deed("d", [[("drop", "b"), ("drop", "c"), ("put", "x", 1)]]))
        self.assertEqual(changes(Lift(gone), Lift(day.with_cell("b", None))), (("d", "c"),))
        # 1 and True do not meet, but 1 and the word do not either.
        self.assertEqual(changes(Lift(day), Lift(day.with_cell("b", "x1"))), (("d", "b"),))

    def test_rows(self):
        day = Day().with_choice("a", 2).with_table("t", ("q", "p")).with_table("s", ("z",)).with_deed(Deed("d", [[]]))
        other = day.with_row("t", "k", (1, 2)).with_row("t", 10, (3, 4), only=[("a", 1)]).with_row("t", -2, (5, 6))
        other = other.with_row("s", 7, (8,)).with_cell("y", 1)
        wanted = ("y", ("s", 7, "z"), ("t", -2, "q"), ("t", -2, "p"), ("t", 10, "q"), ("t", 10, "p"), ("t", "k", "q"), ("t", "k", "p"))
        self.assertEqual(changes(Lift(day), Lift(other)), tuple(("d", slot) for slot in wanted))
        self.assertEqual(changes(Lift(other), Lift(day)), tuple(("d", slot) for slot in wanted))
        later = other.with_row("t", 10, (3, 9), only=[("a", 1)]).with_row("t", -2, (5, 6), only=[("a", 0), ("a", 1)])
        self.assertEqual(changes(Lift(other), Lift(later)), (("d", ("t", -2, "q")), ("d", ("t", -2, "p")), ("d", ("t", 10, "p"))))

    def test_parts(self):
        """Parts are looked at by name, in the order of the second day, behind these those of the first one."""
        one = Day().with_table("t", ("a", "b", "c")).with_row("t", 1, (1, 2, 3)).with_deed(Deed("d", [[]]))
        self.assertEqual(changes(Lift(one), Lift(with_parts(one, "t", ("c", "a", "b")))), ())
        other = with_parts(one, "t", ("d", "c", "a")).with_row("t", 1, (0, 7, 8))
        wanted = [("t", 1, "d"), ("t", 1, "c"), ("t", 1, "a"), ("t", 1, "b")]
        self.assertEqual(changes(Lift(one), Lift(other)), tuple(("d", slot) for slot in wanted))
        wanted = [("t", 1, "a"), ("t", 1, "b"), ("t", 1, "c"), ("t", 1, "d")]
        self.assertEqual(changes(Lift(other), Lift(one)), tuple(("d", slot) for slot in wanted))
        more = with_parts(one, "t", ("a", "b", "c", "e"))
        self.assertEqual(changes(Lift(one), Lift(more)), (("d", ("t", 1, "e")),))
        # A table that one day does not have.
        bare = Day().with_deed(Deed("d", [[]]))
        self.assertEqual([slot for _, slot in changes(Lift(one), Lift(bare))], [("t", 1, "a"), ("t", 1, "b"), ("t", 1, "c")])
        self.assertEqual([slot for _, slot in changes(Lift(bare), Lift(one))], [("t", 1, "a"), ("t", 1, "b"), ("t", 1, "c")])

    def test_parts_at_random(self):
        for seed in range(30):
            maker = Maker(seed)
            one = maker.day(choices=2, deeds=2)
            for rule in ("g", "f"):
                try:
                    one = one.without_rule(rule)
                except Unready:
                    break
            else:
                for parts in (("b", "a"), ("e", "b", "a"), ("b", "e", "f", "a")):
                    try:
                        other = with_parts(one, "t", parts)
                    except Unready:
                        continue
                    self.check(one, other)

    def test_deeds(self):
        one = example()
        moved = one.moved("shop", 0).with_deed(Deed("new", [[("put", "cash", 0)]]), 0)
        self.assertEqual(changes(Lift(one), Lift(moved)), (("shop", "cash"), ("pay", "cash")))
        self.assertEqual(changes(Lift(moved), Lift(one)), (("pay", "cash"), ("shop", "cash")))
        self.assertEqual(changes(Lift(one), Lift(one.without_deed("pay"))), (("shop", "cash"),))
        # Another deed of this name is the same one.
        again = one.without_deed("pay").with_deed(Deed("pay", [[]]))
        self.assertEqual(changes(Lift(one), Lift(again)), (("shop", "cash"), ("pay", "cash")))

    def test_choices(self):
        """Nodes are compared, with the names and the order of their choices."""
        one = Day().with_choice("a", 2).with_choice("b", 2)
        other = Day().with_choice("b", 2).with_choice("a", 2)
        deeds = [Deed("d", [[("put", "x", ("when", ("chosen", "a", 1), 1, 2))]]),
                 Deed("e", [[("put", "x", ("when", ("chosen", "b", 1), "x", 7))]])]
        for deed in deeds:
            one, other = one.with_deed(deed), other.with_deed(deed)
        self.assertEqual(changes(Lift(one), Lift(other)), (("e", "x"),))
        self.check(one, other)
        # A choice of another name is another one; one on which nothing hangs is none.
        named = Day().with_choice("c", 2).with_choice("a", 2).with_choice("b", 2)
        for deed in deeds:
            named = named.with_deed(deed)
        self.assertEqual(changes(Lift(one), Lift(named)), ())
        wider = Day().with_choice("a", 3).with_choice("b", 2)
        for deed in deeds:
            wider = wider.with_deed(deed)
        self.assertEqual(changes(Lift(one), Lift(wider)), (("d", "x"), ("e", "x")))

    def test_opened(self):
        one = example().stands("buy", 1)
        other = opened(one, "shop")
        self.assertEqual(changes(Lift(one), Lift(other)), (("shop", "cash"),))
        self.check(one, other, ("cash",))

    def test_many_slots(self):
        """Forty deeds and all slots that a day may have."""
        day = Day()
        for table in "tuvwxy":
            day = day.with_table(table, ("a", "b", "c", "d"))
            for key in range(8):
                day = day.with_row(table, key, (0, 1, 2, 3))
        for at in range(20):
            day = day.with_choice(f"c{at}", 2).with_cell(f"k{at}", (0, 1), choice=f"c{at}")
        day = day.with_cell("n", 0)
        for at in range(20):
            put = ("each", "r", "tuvwxy"[at % 6], [("change", "tuvwxy"[at % 6], ("my", "r"), "a", ("+", "n", ("my", "r")))])
            day = day.with_deed(Deed(f"d{at}", [[("put", "n", ("+", "n", f"k{at}")), put]]))
            day = day.with_deed(Deed(f"e{at}", [[]]))
        one, other = Lift(day), Lift(day.with_cell("n", 1))
        got = changes(one, other)
        self.assertEqual(sum(slot == "n" for _, slot in got), 40)
        self.assertEqual(len(got), 40 + sum(min(at + 1, 6) * 2 * 8 for at in range(20)))
        self.assertEqual(got[:3], (("d0", "n"), ("d0", ("t", 0, "a")), ("d0", ("t", 1, "a"))))


if __name__ == "__main__":
    unittest.main()
