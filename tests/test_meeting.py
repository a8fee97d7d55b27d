"""Two days put together ([41])."""

import itertools
import random
import unittest

from hadnot.choices import Choices
from hadnot.days import Day, Deed
from hadnot.errors import Clash, InvalidName, Taken, TooWide
from hadnot.lifts import Lift
from hadnot.meeting import met
from hadnot.opened import opened
from hadnot.plain import run
from comparing import Comparing
from helpers import all_worlds, told_of
from random_days import CELLS, TABLES, Maker
from test_days import NO_NAMES, RaisesTest, example
from test_opened import many_rows


def head():
    """A day with something of everything, and two deeds."""
    day = Day().with_table("t", ("p", "q")).with_table("u", ("p",)).with_choice("tip", 2).with_choice("buy", 3)
    day = day.with_cell("cash", 10).with_cell("x", (1, None, "w"), choice="buy")
    day = day.with_row("t", 1, (2, "a"), only=(("tip", 0),)).with_row("u", "k", (5,))
    day = day.with_rule("f", ("v",), ("+", ("my", "v"), 1)).with_rule("g", (), ("call", "f", 2))
    day = day.with_deed(Deed("pay", [[], [("put", "cash", ("-", "cash", 4))]], "tip"))
    return day.with_deed(Deed("see", [[("tell", "cash")]]))


def one_day():
    day = head().with_choice("mine", 2, prices=(0, 5)).stands("mine", 1)
    day = day.with_deed(Deed("shop", [[], [("put", "cash", ("-", "cash", 1))]], "mine", [("tip", 1)]))
    return day.with_deed(Deed("end", [[("tell", ("done", "shop"))]]))


def other_day():
    day = head().with_choice("gone", 2).without_choice("gone").with_choice("yours", 4, prices=(1, 2, 3, 4)).stands("yours", 3)
    return day.with_deed(Deed("sell", [[("put", "cash", ("+", "cash", 7))]], None, [("yours", 2), ("tip", 0)]))


class MetTest(RaisesTest):
    def test_result(self):
        one, other = one_day(), other_day()
        before = told_of(one), told_of(other)
        day = met(one, other, "who")
        self.assertEqual((told_of(one), told_of(other)), before)
        self.assertEqual(day.choices, Choices().put("tip", 2).put("buy", 3).put("mine", 2).put("yours", 4).put("who", 2))
        self.assertEqual(day.standing, {"tip": 0, "buy": 0, "mine": 1, "yours": 3, "who": 0})
        self.assertEqual(day.prices, {"tip": (1, 1), "buy": (1, 1, 1), "mine": (0, 5), "yours": (1, 2, 3, 4), "who": (1, 1)})
        self.assertEqual((day.all_tables, day.all_cells, day.all_rows, day.rules), (
            one.all_tables, one.all_cells, one.all_rows, one.rules))
        self.assertEqual(day.names, ("pay", "see", "shop", "end", "sell"))
        self.assertEqual(day["pay"], one["pay"])
        self.assertEqual(day["shop"], Deed("shop", one["shop"].sayings, "mine", (("who", 0), ("tip", 1))))
        self.assertEqual(day["end"], Deed("end", one["end"].sayings, None, (("who", 0),)))
        self.assertEqual(day["sell"], Deed("sell", other["sell"].sayings, None, (("who", 1), ("yours", 2), ("tip", 0))))
        self.assertEqual(met(other=other, name="who", one=one), day)

    def test_numbers(self):
        """The numbers go on behind the last one that the first day gave."""
        one = one_day().with_choice("last", 2).without_choice("last")
        other = head().without_deed("see").with_choice("z", 2).with_choice("a", 3)
        day = met(one, other, "m")
        self.assertEqual([(name, day.choices.number(name)) for name in day.choices.names],
                         [("tip", 0), ("buy", 1), ("mine", 2), ("z", 4), ("a", 5), ("m", 6)])
        self.assertEqual(day.with_choice("n", 2).choices.number("n"), 7)
        # Numbers that differ do not count.
        late = Day().with_choice("buy", 2).with_choice("tip", 2)
        early = Day().with_choice("tip", 2).with_choice("buy", 2)
        day = met(late, early, "m")
        self.assertEqual((day.choices.number("buy"), day.choices.number("tip"), day.choices.number("m")), (0, 1, 2))

    def test_heads(self):
        a, b, c, d = [Deed(name, [[("tell", at)]]) for at, name in enumerate("abcd")]

        def day(*deeds):
            made = Day()
            for deed in deeds:
                made = made.with_deed(deed)
            return made

        for one, other, names, only in (
                ((a, b), (a, b, c), "abc", {"c": 1}), ((a, b, c), (a,), "abc", {"b": 0, "c": 0}),
                ((), (a,), "a", {"a": 1}), ((b,), (), "b", {"b": 0}), ((), (), "", {}), ((a, b), (a, b), "ab", {}),
                ((a, b, d), (a, c), "abdc", {"b": 0, "d": 0, "c": 1}), ((a,), (b, c), "abc", {"a": 0, "b": 1, "c": 1})):
            made = met(day(*one), day(*other), "m")
            self.assertEqual(made.names, tuple(names))
            for name in names:
                self.assertEqual(made[name].only, (("m", only[name]),) if name in only else ())
        # A deed of the head has to be equal, not just of this name.
        self.named(Clash, "b", met, day(a, b), day(a, Deed("b", [[("tell", 7)]])), "m")

    def test_equal_days(self):
        for day in (Day(), head(), one_day(), opened(one_day(), "shop")):
            made = met(day, day, "m")
            self.assertEqual(made.without_choice("m"), day)
            self.assertEqual((made.choices["m"], made.standing["m"], made.prices["m"]), (2, 0, (1, 1)))

    def test_names(self):
        one, other = one_day(), other_day()
        for name in NO_NAMES:
            self.named(InvalidName, name, met, one, other, name)
            self.named(InvalidName, name, met, one, other.with_cell("cash", 1), name)
        for name in ("tip", "mine", "yours"):
            self.named(Taken, name, met, one, other, name)
            self.named(Taken, name, met, one, other.with_cell("cash", 1), name)
        # The names of other things are free.
        self.assertIn("cash", met(one, other, "cash").choices)
        self.assertIn("pay", met(one, other, "pay").choices)
        self.assertIn("gone", met(one, other, "gone").choices)


def other_table(day):
    """The parts of the table t in another order."""
    made = Day().with_table("t", ("q", "p")).with_table("u", ("p",))
    for name in day.choices.names:
        made = made.with_choice(name, day.choices[name], prices=day.prices[name]).stands(name, day.standing[name])
    for name, value in day.all_cells.items():
        made = made.with_cell(name, value[1], choice=value[0]) if isinstance(value, tuple) else made.with_cell(name, value)
    for (table, key), (values, only) in day.all_rows.items():
        made = made.with_row(table, key, values, only=only)
    for rule in day.rules:
        made = made.with_rule(*rule)
    for deed in day.deeds:
        made = made.with_deed(deed)
    return made


def other_rule(day):
    """The rule f with another expression."""
    return day.without_rule("g").without_rule("f").with_rule("f", ("v",), ("my", "v")).with_rule("g", (), ("call", "f", 2))


# Edits after which two days do not agree, with what Clash tells, in the order in which it does.
CLASHES = (
    ("b", lambda day: day.with_table("b", ("p",))),
    ("c", lambda day: day.with_table("c", ("p",))),
    ("t", other_table),
    ("a", lambda day: day.with_cell("a", 1)),
    ("cash", lambda day: day.with_cell("cash", 11)),
    ("cell", lambda day: day.with_cell("cell", (None, None), choice="tip")),
    ("x", lambda day: day.with_cell("x", (1, None, "v"), choice="buy")),
    ("u", lambda day: day.with_row("u", 7, (1,))),
    ("u", lambda day: day.with_row("u", "k", (6,))),
    ("u", lambda day: day.with_row("u", "k", (5,), only=(("tip", 0),))),
    ("u", lambda day: day.without_row("u", "k")),
    ("e", lambda day: day.with_rule("e", (), 1)),
    ("f", other_rule),
    ("g", lambda day: day.without_rule("g")),
    ("h", lambda day: day.with_rule("h", (), 1)),
    ("buy", lambda day: day.stands("buy", 2)),
    ("tip", lambda day: day.stands("tip", 1)),
)


class ClashTest(RaisesTest):
    def test_alone(self):
        one, other = one_day(), other_day()
        for name, edit in CLASHES:
            self.named(Clash, name, met, edit(one), other, "m")
            self.named(Clash, name, met, one, edit(other), "m")
            self.assertEqual(met(edit(one), edit(one), "m").without_choice("m"), edit(one))

    def test_two_at_once(self):
        """The first one counts, whichever day has it."""
        one, other = one_day(), other_day()
        for (first, edit), (_, later) in itertools.combinations(CLASHES, 2):
            self.named(Clash, first, met, edit(one), later(other), "m")
            self.named(Clash, first, met, later(one), edit(other), "m")

    def test_places_of_rules(self):
        day = Day().with_rule("b", (), 1).with_rule("a", (), 2)
        self.named(Clash, "a", met, day, Day().with_rule("a", (), 2).with_rule("b", (), 1), "m")
        day, other = day.with_rule("c", (), 3), Day().with_rule("b", (), 1).with_rule("c", (), 3)
        # The rule c stands at another place, and a is in one day alone.
        self.named(Clash, "a", met, day, other, "m")
        day = Day().with_rule("z", (), 1).with_rule("b", (), 1)
        self.named(Clash, "b", met, day, Day().with_rule("b", (), 1), "m")
        self.named(Clash, "p", met, Day().with_rule("p", ("v",), 1), Day().with_rule("p", ("w",), 1), "m")

    def test_choices(self):
        one, other = Day().with_choice("b", 2).with_choice("a", 2), Day().with_choice("a", 2).with_choice("b", 2)
        self.assertEqual(len(met(one, other, "m").choices), 3)
        self.named(Clash, "a", met, one, Day().with_choice("a", 3), "m")
        self.named(Clash, "a", met, one, Day().with_choice("a", 2, prices=(1, 2)), "m")
        # Also the price of the option that stands counts.
        self.named(Clash, "a", met, one, Day().with_choice("a", 2, prices=(2, 1)), "m")
        self.named(Clash, "b", met, one, other.stands("b", 1), "m")
        self.named(Clash, "a", met, one.stands("a", 1), other.stands("b", 1), "m")
        self.assertEqual(met(one, Day(), "m").choices.names, ("b", "a", "m"))
        made = met(Day().with_choice("a", 2), Day().with_choice("c", 4, prices=(3, 2, 1, 0)).stands("c", 2), "m")
        self.assertEqual((made.standing, made.prices["c"]), ({"a": 0, "c": 2, "m": 0}, (3, 2, 1, 0)))

    def test_deeds(self):
        """A deed behind the head of both, by names; last of all."""
        one, other = one_day(), other_day()
        shop = Deed("shop", [[]])
        self.named(Clash, "shop", met, one, other.with_deed(shop), "m")
        self.named(Clash, "end", met, one, other.with_deed(shop).with_deed(Deed("end", [[]])), "m")
        self.named(Clash, "pay", met, one.moved("see", 0), other, "m")
        self.named(Clash, "tip", met, one.moved("see", 0).stands("tip", 1), other, "m")
        self.named(Clash, "see", met, one, other.with_saying("see", 0, []), "m")
        # An opened deed is another one; a choice of a row is told of first if both days have it.
        self.named(Clash, "pay", met, opened(one, "pay"), other, "m")
        self.named(Clash, "see", met, opened(one, "see"), other, "m")
        self.named(Clash, "see.0", met, opened(one, "see"), opened(other, "see").stands("see.0", 1), "m")
        self.assertEqual(met(opened(one, "see"), opened(other, "see"), "m")["see"].opened, 0)


class RunTest(Comparing):
    def made(self, seed):
        """Two days with a common head, which may be opened, as may be deeds behind it."""
        maker = Maker(seed)
        common = maker.day(choices=2, deeds=maker.rows.randrange(3))
        names, options = list(maker.deeds), dict(maker.options)
        if names and maker.likely(0.5):
            common = self.opened_at_random(common, maker)
        days = []
        for choice in ("one", "two"):
            day = common
            maker.options, maker.deeds = dict(options), list(names)
            if maker.likely(0.7):
                day = day.with_choice(choice, 2)
                maker.options[choice] = 2
            for at in range(maker.rows.randrange(3)):
                by = maker.pick(maker.options) if maker.likely(0.6) else None
                sayings = [maker.saying(2, 4) for _ in range(1 if by is None else maker.options[by])]
                day = day.with_deed(Deed(f"{choice}{at}", sayings, by, maker.only() if maker.likely(0.4) else ()))
                maker.deeds.append(f"{choice}{at}")
            if maker.likely(0.5):
                day = self.opened_at_random(day, maker)
            days.append(day)
        return days

    def opened_at_random(self, day, maker):
        for name in day.names:
            deed = day[name]
            if deed.opened is None and many_rows(deed.sayings[0]) <= 3 and maker.likely(0.5):
                return opened(day, name)
        return day

    def test_worlds(self):
        """With option 0 the deeds of one day are done, with option 1 those of the other one."""
        rows, compared, opened_rests = random.Random(1), 0, 0
        for seed in range(150):
            one, other = self.made(seed)
            try:
                day = met(one, other, "m")
            except Clash:
                # Only what is opened in one day alone makes them differ.
                self.assertTrue(any(one[name].opened != other[name].opened for name in one.names if name in other))
                continue
            rest = [name for name in day.names if day[name].only[:1] in ((("m", 0),), (("m", 1),))]
            opened_rests += any(day[name].opened is not None for name in rest)
            worlds = all_worlds(day.choices)
            worlds = rows.sample(worlds, min(len(worlds), 60))
            for world in worlds:
                part = (one, other)[world["m"]]
                view = run(day, world)
                wanted = run(part, {name: world[name] for name in part.choices.names})
                for behind in ("", *part.names):
                    self.compare_states(view, wanted, behind)
                self.compare_deeds(view, wanted, part)
                self.assertEqual([name for name in day.names if name not in part and view.is_there(name)], [])
                compared += 1
            try:
                self.compare(day, Lift(day), worlds[:30])
            except TooWide:
                continue
        self.assertGreater(compared, 3000)
        self.assertGreater(opened_rests, 10)

    def compare_states(self, view, wanted, behind):
        for cell in CELLS:
            self.alike(view.value(cell, behind=behind), wanted.value(cell, behind=behind))
        for table in TABLES:
            keys = view.keys_of(table, behind=behind)
            self.alike(keys, wanted.keys_of(table, behind=behind))
            for key in keys:
                self.alike(view.row_of(table, key, behind=behind), wanted.row_of(table, key, behind=behind))

    def compare_deeds(self, view, wanted, day):
        for name in day.names:
            for method in ("is_there", "done", "refusal", "told"):
                self.alike(getattr(view, method)(name), getattr(wanted, method)(name))

    def test_opened_rests(self):
        one = opened(example().stands("buy", 1), "shop")
        other = example().stands("buy", 1).without_deed("shop").with_deed(Deed("sell", [[("put", "cash", 99)]]))
        other = opened(other, "sell")
        day = met(one, other, "m")
        self.assertEqual(day.choices.names, ("tip", "buy", "shop.0", "shop.1", "sell.0", "m"))
        self.assertEqual((day["shop"].opened, day["sell"].opened, day["pay"].opened), (1, 0, None))
        told = {(): 4, (("m", 1),): 99, (("m", 1), ("sell.0", 1)): 10, (("shop.1", 1),): 10, (("sell.0", 1),): 4}
        lift = Lift(day)
        for pairs, cash in told.items():
            world = {**day.standing, **dict(pairs)}
            self.assertEqual((run(day, world)["cash"], lift["cash"](world)), (cash, cash))

    def test_three_days(self):
        days = [example().with_choice(name, 2).with_deed(Deed(name, [[("put", "cash", at)], [("tell", at)]], name))
                for at, name in enumerate(("one", "two", "three"))]
        left = met(met(days[0], days[1], "m"), days[2], "n")
        right = met(days[0], met(days[1], days[2], "m"), "n")
        self.assertEqual(left["one"].only, (("n", 0), ("m", 0)))
        self.assertEqual(left["three"].only, (("n", 1),))
        self.assertEqual(right["three"].only, (("n", 1), ("m", 1)))
        for world in all_worlds(left.choices):
            part = days[2] if world["n"] else days[world["m"]]
            self.compare_deeds(run(left, world), run(part, {name: world[name] for name in part.choices.names}), part)
            self.assertEqual(run(left, world)["cash"], run(part, {name: world[name] for name in part.choices.names})["cash"])
        for world in all_worlds(right.choices):
            part = days[1 + world["m"]] if world["n"] else days[0]
            self.compare_deeds(run(right, world), run(part, {name: world[name] for name in part.choices.names}), part)
            self.assertEqual(run(right, world)["cash"], run(part, {name: world[name] for name in part.choices.names})["cash"])


if __name__ == "__main__":
    unittest.main()
