"""Opened deeds ([40]), and what other points say of them."""

import random
import unittest

from hadnot.choices import Choices
from hadnot.days import Day, Deed
from hadnot.daytexts import read_day, show_day
from hadnot.errors import InvalidName, InvalidText, NotOpen, Opened, TooWide, UnknownName, Unready
from hadnot.lifts import Lift
from hadnot.opened import closed, opened
from hadnot.plain import run
from hadnot.turning import turning_sets
from hadnot.wishes import cheapest
from comparing import Comparing
from helpers import all_worlds, told_of
from random_days import CELLS, TABLES, Maker
from test_days import RaisesTest, example
from test_wide import base, limits, place_of, total_of
from wide import Wide, length

YES = ("not", ("has", "nowhere"))


def many_rows(rows):
    return sum(length(row) for row in rows)


def without(rows, left, number=0):
    """Rows but for those with some numbers, and the numbers of the ones that stay."""
    kept, numbers = [], []
    for row in rows:
        behind = number + length(row)
        if number not in left:
            numbers.append(number)
            start = number + 1
            made = list(row)
            for at, part in enumerate(row):
                if row[0] == "if" and at in (2, 3) or row[0] == "each" and at == 3:
                    made[at], inner = without(part, left, start)
                    numbers.extend(inner)
                    start += many_rows(part)
            kept.append(tuple(made))
        number = behind
    return tuple(kept), numbers


def reduced(day, world):
    """The day without the rows that a world leaves out, and the numbers of the rows that stay in opened sayings.

    A row that does nothing is put in behind a saying that had one, so that the deed counts as done.
    """
    made, numbers = Day(), {}
    for name in day.choices.names:
        if "." not in name:
            made = made.with_choice(name, day.choices[name])
    for table, parts in day.all_tables.items():
        made = made.with_table(table, parts)
    for name, value in day.all_cells.items():
        made = made.with_cell(name, value[1], choice=value[0]) if isinstance(value, tuple) else made.with_cell(name, value)
    for (table, key), (values, only) in day.all_rows.items():
        made = made.with_row(table, key, values, only=only)
    for rule in day.rules:
        made = made.with_rule(*rule)
    for deed in day.deeds:
        sayings = list(deed.sayings)
        if deed.opened is not None:
            left = [row for row in range(60) if world.get(f"{deed.name}.{row}") == 1]
            saying, numbers[deed.name] = without(sayings[deed.opened], left)
            if sayings[deed.opened]:
                sayings[deed.opened] = (*saying, ("need", YES))
        made = made.with_deed(Deed(deed.name, sayings, deed.choice, deed.only))
    return made, numbers


def random_opened(seed, choices=2, deeds=2, most=7):
    """A day at random of which deeds are opened, with not too many rows."""
    maker = Maker(seed)
    day = maker.day(choices, deeds)
    for name in day.choices.names:
        day = day.stands(name, maker.rows.randrange(day.choices[name]))
    left = most
    for name in maker.rows.sample(day.names, len(day)):
        deed = day[name]
        many = many_rows(deed.sayings[0 if deed.choice is None else day.standing[deed.choice]])
        if many <= left and maker.likely(0.8):
            day = opened(day, name)
            left -= many
    return maker, day


def loops():
    """A deed with ifs and loops within one another."""
    rows = [("let", "n", 0),
            ("each", "r", "t", [
                ("if", ("<", ("my", "r"), 2),
                 [("let", "n", ("+", ("my", "n"), ("part", "t", ("my", "r"), "p"))), ("tell", ("my", "r"))],
                 [("change", "t", ("my", "r"), "p", 0)]),
                ("tell", ("my", "n"))]),
            ("put", "x", ("my", "n"))]
    day = Day().with_table("t", ("p",)).with_row("t", 1, (5,)).with_row("t", 2, (7,)).with_row("t", 0, (2,))
    return day.with_cell("x", 100).with_deed(Deed("go", [rows]))


class EditTest(RaisesTest):
    def test_example(self):
        day = opened(example().stands("buy", 1), "shop")
        self.assertEqual(day.choices, Choices().put("tip", 2).put("buy", 2).put("shop.0", 2).put("shop.1", 2))
        self.assertEqual(day.standing, {"tip": 0, "buy": 1, "shop.0": 0, "shop.1": 0})
        self.assertEqual(day.prices["shop.1"], (1, 1))
        self.assertEqual(day["shop"].opened, 1)
        self.assertEqual(day["shop"].sayings, example()["shop"].sayings)
        lift = Lift(day)
        self.assertEqual(str(lift["cash"][("tip", 0)]), "10 ; 4 ; shop.1(1 0) ; buy(0 2)")
        self.assertEqual([lift["cash"]({"tip": 1, "buy": 1, **world}) for world in (
            {}, {"shop.0": 1}, {"shop.1": 1}, {"shop.0": 1, "shop.1": 1})], [6, 0, 6, 6])
        self.assertEqual(list(turning_sets(lift.ask(("=", "cash", 4)), day.standing)),
                         [(("tip", 1),), (("buy", 0),), (("shop.1", 1),)])
        self.assertEqual(cheapest(lift.ask(("=", "cash", 0)), day.standing, day.prices), (2, (("tip", 1), ("shop.0", 1))))

    def test_nothing_is_changed(self):
        day = example()
        before = told_of(day)
        later = opened(day=day, deed="pay")
        self.assertEqual(told_of(day), before)
        self.assertEqual(told_of(later)[:-1], before[:-1])
        self.assertEqual(later["pay"].opened, 0)
        kept = told_of(later)
        self.assertEqual(closed(day=later, deed="pay"), day)
        self.assertEqual(told_of(later), kept)

    def test_each_option(self):
        sayings = [[("tell", 0)], [], [("if", YES, [("tell", 1)], [("tell", 2), ("each", "r", "t", [("tell", 3)])])]]
        day = Day().with_choice("c", 3).with_table("t", ("p",)).with_deed(Deed("d", sayings, "c", [("c", 1)]))
        for option, many in ((0, 1), (1, 0), (2, 5)):
            later = opened(day.stands("c", option), "d")
            self.assertEqual(later["d"].opened, option)
            self.assertEqual(later.choices.names, ("c", *[f"d.{row}" for row in range(many)]))
            self.assertEqual((later["d"].only, later["d"].choice), ((("c", 1),), "c"))
            self.assertEqual(closed(later, "d"), day.stands("c", option))

    def test_one_saying(self):
        day = opened(loops(), "go")
        self.assertEqual(day.choices.names, tuple(f"go.{row}" for row in range(8)))
        self.assertEqual((day["go"].opened, day["go"].choice), (0, None))
        self.assertEqual(closed(day, "go"), loops())

    def test_sixty_rows(self):
        rows = [("each", "r", "t", [("if", YES, [("tell", 1)] * 28, [("tell", 2)] * 29)]), ("tell", 3)]
        day = opened(Day().with_table("t", ("p",)).with_deed(Deed("long6c", [rows])), "long6c")
        self.assertEqual(day.choices.names, tuple(f"long6c.{row}" for row in range(60)))
        self.assertEqual([day.choices.number(f"long6c.{row}") for row in (0, 9, 10, 59)], [0, 9, 10, 59])
        self.assertEqual(Lift(day).done("long6c").outcomes, (True,))
        self.assertEqual(len(closed(day, "long6c").choices), 0)

    def test_numbers(self):
        day = opened(example(), "pay")
        day = opened(day.stands("buy", 1), "shop").with_choice("c", 2)
        self.assertEqual([day.choices.number(name) for name in day.choices.names], [0, 1, 2, 3, 4])
        day = closed(day, "shop")
        self.assertEqual([(name, day.choices.number(name)) for name in day.choices.names], [("tip", 0), ("buy", 1), ("c", 4)])
        again = opened(day, "shop")
        self.assertEqual([again.choices.number(name) for name in ("shop.0", "shop.1")], [5, 6])
        self.assertEqual(closed(again, "shop"), day)
        self.assertNotEqual(again, opened(example().stands("buy", 1).with_choice("c", 2), "shop"))

    def test_equality(self):
        day = example().stands("buy", 1)
        self.assertEqual(opened(day, "shop"), opened(day, "shop"))
        self.assertNotEqual(opened(day, "shop"), day)
        self.assertNotEqual(opened(day, "shop")["shop"], day["shop"])
        self.assertEqual(opened(day, "shop")["pay"], day["pay"])
        self.assertNotEqual(opened(day, "shop"), opened(day, "shop").stands("shop.1", 1))
        empty = Day().with_choice("c", 2).with_deed(Deed("d", [[], []], "c"))
        self.assertNotEqual(opened(empty, "d"), opened(empty.stands("c", 1), "d").stands("c", 0))
        self.assertNotEqual(opened(empty, "d")["d"], opened(empty.stands("c", 1), "d")["d"])

    def test_errors(self):
        day = opened(example().stands("buy", 1), "shop")
        for name in ("tip", "cash", "shop.0", "", "nix"):
            self.named(UnknownName, name, opened, day, name)
            self.named(UnknownName, name, closed, day, name)
        self.named(Opened, "shop", opened, day, "shop")
        self.named(Opened, "shop", opened, day.stands("buy", 0), "shop")
        self.named(NotOpen, "pay", closed, day, "pay")
        self.named(NotOpen, "shop", closed, closed(day, "shop"), "shop")
        self.named(Opened, "shop", day.with_saying, "shop", 0, ())
        self.named(Opened, "shop", day.with_saying, "shop", 1, ())
        self.named(Opened, "shop", day.without_deed, "shop")
        self.named(Opened, "shop", day.without_choice, "shop.1")
        self.named(UnknownName, "shop.2", day.without_choice, "shop.2")
        self.named(UnknownName, "pay.0", day.stands, "pay.0", 1)
        self.named(InvalidName, "shop.2", day.with_choice, "shop.2", 2)
        self.raises(Unready, {"where": "shop", "name": "buy"}, day.without_choice, "buy")
        self.assertEqual(opened(day, "pay").names, day.names)

    def test_unready(self):
        """What something else names is not left out; then nothing changes."""
        day = opened(example().stands("buy", 1), "shop").with_table("t", ("p",))
        cases = [(day.with_cell("x", (1, 2), choice="shop.1"), "x", "shop.1"),
                 (day.with_row("t", 3, (1,), only=[("buy", 0), ("shop.0", 1)]), "t", "shop.0"),
                 (day.with_rule("f", (), ("chosen", "shop.1", 0)), "f", "shop.1"),
                 (day.with_deed(Deed("a", [[], []], "shop.0")), "a", "shop.0"),
                 (day.with_deed(Deed("a", [[]], None, [("shop.1", 1)]), 0), "a", "shop.1"),
                 (day.with_deed(Deed("a", [[("tell", ("+", ("chosen", "shop.1", 1), ("chosen", "shop.0", 1)))]])), "a", "shop.1"),
                 (day.with_deed(Deed("a", [[], []], "shop.1")).with_cell("y", (1, 2), choice="shop.0"), "y", "shop.0")]
        for later, where, name in cases:
            before = told_of(later)
            self.raises(Unready, {"where": where, "name": name}, closed, later, "shop")
            self.assertEqual(told_of(later), before)
            self.raises(Unready, {"where": where, "name": name}, closed, later.stands("shop.0", 1).moved("shop", 0), "shop")
        later = opened(cases[3][0], "a")
        self.raises(Unready, {"where": "a", "name": "shop.0"}, closed, later, "shop")
        self.assertEqual(closed(closed(later, "a").without_deed("a"), "shop"), example().stands("buy", 1).with_table("t", ("p",)))

    def test_edits_of_opened_days(self):
        day = opened(example().stands("buy", 1), "shop")
        for later in (day.moved("shop", 0), day.stands("buy", 0), day.stands("shop.1", 1), day.with_saying("pay", 0, ()),
                      day.without_deed("pay"), day.with_deed(Deed("z", [[]]), 1), opened(day, "pay"), closed(opened(day, "pay"), "pay")):
            self.assertEqual(later["shop"], day["shop"])
            self.assertEqual(later["shop"].opened, 1)
            self.assertEqual(closed(later, "shop")["shop"], example()["shop"])
            self.assertEqual([name for name in closed(later, "shop").choices.names if "." in name], [])
        # What is put in is not opened, wherever it was before.
        moved = example().without_deed("shop").with_deed(day["shop"])
        self.assertIsNone(moved["shop"].opened)
        self.assertEqual(moved, example())
        self.named(NotOpen, "shop", closed, moved, "shop")

    def test_names_of_rows(self):
        """The choice of a row may be named wherever a choice may."""
        day = opened(example().stands("buy", 1), "shop").with_table("t", ("p",))
        day = day.with_cell("x", (1, 2), choice="shop.1").with_row("t", 1, (3,), only=[("shop.0", 1)])
        day = day.with_rule("f", (), ("chosen", "shop.0", 1))
        day = day.with_deed(Deed("z", [[], [("tell", ("call", "f"))]], "shop.1", [("tip", 1)]))
        view = run(day, {"tip": 1, "buy": 1, "shop.0": 1, "shop.1": 1})
        self.assertEqual((view["x"], view.keys_of("t"), view.told("z"), view["cash"]), (2, (1,), ((0, True),), 6))
        self.assertIs(view.ask(("chosen", "shop.1", 1)), True)
        for name, option in (("shop.2", 0), ("pay.0", 0), ("shop.0", 2)):
            with self.assertRaises(Unready) as caught:
                view.ask(("chosen", name, option))
            self.assertEqual(caught.exception.name, name)

    def test_texts(self):
        day = opened(example().stands("buy", 1), "shop").stands("shop.1", 1).with_rule("f", (), ("chosen", "shop.1", 1))
        self.assertEqual(show_day(day), show_day(example()).replace("choice buy 2 0 1 1", "choice buy 2 1 1 1\n"
                         "choice shop.0 2 0 1 1\nchoice shop.1 2 1 1 1").replace("deed pay", "rule f 0 chosen shop.1 1\ndeed pay"))
        with self.assertRaises(InvalidText) as caught:
            read_day(show_day(day))
        self.assertEqual(caught.exception.row, 2)


class RunTest(Comparing):
    def test_left_out_rows(self):
        day = opened(loops(), "go")
        told = {(): (7, ((4, 0), (6, 2), (4, 1), (6, 7), (6, 7)), 0),
                (0,): "missing", (1,): (0, (), 7), (2,): (0, ((6, 0), (6, 0), (6, 0)), 7),
                (3,): (0, ((4, 0), (6, 0), (4, 1), (6, 0), (6, 0)), 0), (4,): (7, ((6, 2), (6, 7), (6, 7)), 0),
                (5,): (7, ((4, 0), (6, 2), (4, 1), (6, 7), (6, 7)), 7), (6,): (7, ((4, 0), (4, 1)), 0),
                (7,): (100, ((4, 0), (6, 2), (4, 1), (6, 7), (6, 7)), 0), (2, 6, 7): (100, (), 7),
                (0, 1, 7): (100, (), 7), tuple(range(8)): (100, (), 7)}
        for left, wanted in told.items():
            view = run(day, {f"go.{row}": 1 for row in left})
            if wanted == "missing":
                self.assertEqual((view.refusal("go"), view.done("go"), view.told("go"), view["x"]), ((3, "missing"), False, (), 100))
            else:
                self.assertEqual((view["x"], view.told("go"), view.row_of("t", 2)[0]), wanted)
                self.assertTrue(view.done("go"))

    def test_done(self):
        """Whatever is left out, a deed with a row counts as done, but not if it is not there or refused."""
        rows = [("need", ("chosen", "c", 0)), ("tell", 1)]
        day = Day().with_choice("c", 2).with_choice("o", 2)
        day = day.with_deed(Deed("d", [rows, []], "c", [("o", 0)])).with_deed(Deed("e", [[("tell", ("done", "d"))]]))
        day = day.with_deed(Deed("f", [[]]))
        day = opened(opened(day, "d"), "f")
        for world in all_worlds(day.choices):
            view = run(day, world)
            wanted = world["c"] == 0 and world["o"] == 0
            self.assertEqual((view.done("d"), view.told("e")), (wanted, ((0, wanted),)))
            self.assertFalse(view.done("f"))
        # Of another option the saying is not opened.
        other = opened(day.without_deed("e").with_deed(Deed("g", [[], [("tell", 1)]], "c")).stands("c", 1), "g")
        other = other.stands("c", 0)
        self.assertEqual(run(other, {"c": 1, "g.0": 1}).done("g"), True)
        self.assertEqual(run(other, {"c": 0, "g.0": 0}).done("g"), False)

    def test_opened_saying_alone(self):
        day = Day().with_choice("c", 3).with_deed(Deed("d", [[("tell", 0), ("tell", 1)], [("tell", 2), ("tell", 3)], [("tell", 4)]], "c"))
        day = opened(day.stands("c", 1), "d").stands("c", 2)
        left = {"d.0": 1, "d.1": 1}
        self.assertEqual([run(day, {"c": option, **left}).told("d") for option in range(3)],
                         [((0, 0), (1, 1)), (), ((0, 4),)])
        self.assertEqual(run(day, {"c": 1, "d.0": 1}).told("d"), ((1, 3),))
        self.assertEqual(run(day.moved("d", 0), {"c": 1, "d.1": 1}).told("d"), ((0, 2),))
        self.assertEqual(run(closed(day, "d"), {"c": 1}).told("d"), ((0, 2), (1, 3)))

    def test_loop_left_out(self):
        """The local of a loop that is left out is not set."""
        rows = [("let", "r", 9), ("each", "r", "t", [("let", "s", ("my", "r"))]), ("tell", ("my", "r")), ("tell", ("my", "s"))]
        day = opened(Day().with_table("t", ("p",)).with_row("t", 1, (5,)).with_deed(Deed("d", [rows])), "d")
        self.assertEqual(run(day, {}).told("d"), ((3, 9), (4, 1)))
        self.assertEqual(run(day, {"d.1": 1}).refusal("d"), (4, "missing"))
        self.assertEqual(run(day, {"d.1": 1, "d.4": 1}).told("d"), ((3, 9),))
        self.assertEqual(run(day, {"d.0": 1}).refusal("d"), (3, "missing"))
        row, word = Lift(day).refusal("d")
        self.assertEqual((row({"d.1": 1}), word({"d.2": 1}), row({"d.0": 1, "d.3": 1, "d.4": 1})), (4, "missing", None))

    def test_against_days_without_rows(self):
        worlds_seen = refused = 0
        for seed in range(60):
            _, day = random_opened(seed)
            names = [name for name in day.choices.names if "." not in name]
            worlds = all_worlds(day.choices)
            for world in random.Random(seed).sample(worlds, min(len(worlds), 40)):
                other, numbers = reduced(day, world)
                view, wanted = run(day, world), run(other, {name: world[name] for name in names})
                self.compare_states(day, view, wanted)
                for name in day.names:
                    opened_here = name in numbers and (day[name].choice is None or world[day[name].choice] == day[name].opened)
                    number = numbers[name] if opened_here else list(range(60))
                    fault = wanted.refusal(name)
                    self.alike(view.refusal(name), fault and (number[fault[0]], fault[1]))
                    self.alike(view.told(name), tuple((number[row], value) for row, value in wanted.told(name)))
                    self.alike((view.is_there(name), view.done(name)), (wanted.is_there(name), wanted.done(name)))
                    refused += opened_here and fault is not None
                worlds_seen += 1
        self.assertGreater(worlds_seen, 1200)
        self.assertGreater(refused, 300)

    def compare_states(self, day, view, wanted):
        for behind in ("", *day.names):
            self.alike([view.value(cell, behind=behind) for cell in CELLS], [wanted.value(cell, behind=behind) for cell in CELLS])
            for table in TABLES:
                keys = view.keys_of(table, behind=behind)
                self.alike(keys, wanted.keys_of(table, behind=behind))
                self.alike([view.row_of(table, key, behind=behind) for key in keys],
                           [wanted.row_of(table, key, behind=behind) for key in keys])


class LiftTest(Comparing):
    def test_all_worlds(self):
        for seed in range(60):
            maker, day = random_opened(seed, most=5)
            lift, worlds = Lift(day), all_worlds(day.choices)
            views = self.compare(day, lift, worlds)
            # Expressions may name the choices of rows.
            maker.options = {name: day.choices[name] for name in day.choices.names}
            for behind in ("", *day.names):
                self.ask(maker, lift, worlds, views, behind)

    def test_drawn_worlds(self):
        rows, compared = random.Random(6), 0
        for seed in range(200, 240):
            maker, day = random_opened(seed, choices=6, deeds=4, most=34)
            try:
                lift = Lift(day)
            except TooWide:
                continue
            worlds = [{name: rows.randrange(day.choices[name]) for name in day.choices.names} for _ in range(20)]
            views = self.compare(day, lift, worlds)
            self.ask(maker, lift, worlds, views, None)
            compared += 1
        self.assertGreater(compared, 25)

    def test_sixty_rows(self):
        """Each row is left out by its own choice."""
        day = Day().with_choice("c", 2)
        for at in range(30):
            day = day.with_cell(f"x{at}", at)
        rows = [("if", ("chosen", "c", 0), [("put", f"x{at}", ("+", f"x{at}", 100))], []) for at in range(30)]
        day = opened(day.with_deed(Deed("go", [rows])), "go")
        self.assertEqual(len(day.choices), 61)
        lift = Lift(day)
        for at in (0, 7, 29):
            self.assertEqual(str(lift[f"x{at}"]), f"{at + 100} ; {at} ; go.{2 * at + 1}(0 1) ; go.{2 * at}(2 1) ; c(3 1)")
        self.assertEqual(lift["x5"].count(105), 2 ** 58)

    def test_too_wide(self):
        """Against the traces of all worlds, with small bounds."""
        places, rows_of_opened = set(), 0
        for seed in range(60):
            _, day = random_opened(seed, most=6)
            for most in (5, 8, 12, 17):
                with limits(most)[0]:
                    got = place_of(day)
                self.assertEqual(got, Wide(day, most).place(), (seed, most))
                places.add(got)
                rows_of_opened += got is not None and day[got[0]].opened is not None
            for keys in (2, 3):
                with limits(300, keys)[1]:
                    got = place_of(day)
                self.assertEqual(got, Wide(day, 300, keys).place(), (seed, keys))
        self.assertGreater(len(places), 10)
        self.assertGreater(rows_of_opened, 30)

    def test_too_wide_by_rows(self):
        """The choice of one row makes a worth wider by just its own nodes."""
        for many, wide in ((22, None), (23, ("go", 1))):
            total = total_of([f"k{at}" for at in range(many)])
            day = base().with_deed(Deed("go", [[("tell", 1), ("put", "m", total)]]))
            self.assertIsNone(place_of(day))
            # Where the row is left out, the cell m is not there: below each number stands the row's choice.
            day = opened(day, "go")
            self.assertEqual(place_of(day), wide)
            if wide is None:
                self.assertEqual(len(Lift(day)["m"]), 300)
        # An expression is not evaluated where its row is left out.
        day = base().with_deed(Deed("go", [[("tell", 1), ("need", ("<", "n", 99))]]))
        self.assertIsNone(place_of(day))
        self.assertEqual(place_of(opened(day, "go")), ("go", 1))


if __name__ == "__main__":
    unittest.main()
