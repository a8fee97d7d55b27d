"""[20], [21], [23]: deeds and days."""

import random
import unittest

from hadnot.choices import Choices
from hadnot.days import Day, Deed
from hadnot.errors import InvalidDeed, InvalidName, Opened, Taken, UnknownName, Unready
from hadnot.opened import closed, opened
from helpers import choices_of, told_of

NO_NAMES = ("", "abcdefg", "A", "1a", "a b", "a.1", "pay.0", "\u00e9", "a\n")
SAYING = (("put", "cash", ("-", "cash", 4)),)


def example():
    day = Day().with_cell("cash", 10).with_choice("tip", 2).with_choice("buy", 2)
    day = day.with_deed(Deed("pay", [[], [("put", "cash", ("-", "cash", 4))]], "tip"))
    return day.with_deed(Deed("shop", [[], [("need", ("<", 6, "cash")), ("put", "cash", ("-", "cash", 6))]], "buy"))


def full_day():
    """A day that has something of everything."""
    day = example().with_table("t", ("p", "q")).with_table("u", ("p",)).with_choice("c", 3, prices=(0, 5, 7))
    day = day.with_cell("x", (1, None, "w"), choice="c").with_row("t", 1, (2, "a"), only=(("c", 1), ("tip", 0)))
    day = day.with_row("u", "k", (5,)).with_rule("f", ("v", "w"), ("+", ("my", "v"), ("my", "w")))
    day = day.with_rule("g", (), ("call", "f", 1, "cash"))
    return day.with_deed(Deed("last", [[("tell", ("call", "g")), ("tell", ("done", "pay"))]], None, [("c", 2)]))


class RaisesTest(unittest.TestCase):
    def raises(self, error, told, work, *args, **more):
        """Whether a call raises an error of just this class with these attributes."""
        with self.assertRaises(error) as caught:
            work(*args, **more)
        self.assertIs(type(caught.exception), error)
        self.assertEqual({word: getattr(caught.exception, word) for word in told}, told)

    def named(self, error, name, work, *args, **more):
        self.raises(error, {"name": name}, work, *args, **more)


class DeedTest(RaisesTest):
    def test_attributes(self):
        deed = Deed("pay", (SAYING,))
        self.assertEqual((deed.name, deed.sayings, deed.choice, deed.only, deed.opened), ("pay", (SAYING,), None, (), None))
        deed = Deed(name="pay", sayings=((), SAYING), choice="tip", only=(("c", 1), ("d", 0)))
        self.assertEqual((deed.name, deed.sayings, deed.choice), ("pay", ((), SAYING), "tip"))
        self.assertEqual(deed.only, (("c", 1), ("d", 0)))

    def test_lists_become_tuples(self):
        saying = [["if", ["has", "x"], [["insert", "t", ["word", "a"], [1, ["+", 1, 2]]]], []], ["tell", ["call", "f", "x"]]]
        only = [["c", 1]]
        deed = Deed("pay", [saying, []], "tip", only)
        wanted = ((("if", ("has", "x"), (("insert", "t", ("word", "a"), (1, ("+", 1, 2))),), ()),
                   ("tell", ("call", "f", "x"))), ())
        self.assertEqual((deed.sayings, deed.only), (wanted, (("c", 1),)))
        saying[1][1][2] = 5
        saying.append(["drop", "x"])
        only.append(("d", 1))
        self.assertEqual((deed.sayings, deed.only), (wanted, (("c", 1),)))

    def test_names(self):
        for name in NO_NAMES:
            self.named(InvalidName, name, Deed, name, ((),))
        # Whether the sayings are as many as the options is asked by a day.
        self.assertEqual(Deed("a", ()).sayings, ())

    def test_equal(self):
        deed = Deed("pay", ((), SAYING), "tip", (("c", 1),))
        self.assertIs(deed == Deed("pay", [[], [list(SAYING[0])]], "tip", [["c", 1]]), True)
        others = (Deed("pays", ((), SAYING), "tip", (("c", 1),)), Deed("pay", (SAYING, ()), "tip", (("c", 1),)),
                  Deed("pay", ((), SAYING), "tap", (("c", 1),)), Deed("pay", ((), SAYING), None, (("c", 1),)),
                  Deed("pay", ((), SAYING), "tip", (("c", 0),)), Deed("pay", ((), SAYING), "tip"),
                  deed.with_opened(0), deed.with_opened(1))
        for other in (*others, None, "pay", ("pay", ((), SAYING), "tip", (("c", 1),)), Day(), object()):
            self.assertIs(deed == other, False)
            self.assertTrue(deed != other)
            self.assertIs(other == deed, False)


class DayTest(RaisesTest):
    def test_nothing(self):
        day = Day()
        self.assertEqual(told_of(day), ((), [], {}, {}, {}, {}, {}, (), (), []))
        self.assertEqual((len(day), day.choices, day.deeds), (0, Choices(), ()))

    def test_example(self):
        day = example()
        self.assertEqual((day.names, len(day), day.all_cells), (("pay", "shop"), 2, {"cash": 10}))
        self.assertEqual((day.standing, day.prices), ({"tip": 0, "buy": 0}, {"tip": (1, 1), "buy": (1, 1)}))
        self.assertEqual((day.choices, day.deeds), (choices_of(tip=2, buy=2), (day["pay"], day["shop"])))
        self.assertEqual(day["pay"], Deed("pay", ((), SAYING), "tip"))

    def test_dicts_are_new(self):
        day, other = full_day(), full_day()
        for told in ("standing", "prices", "all_tables", "all_cells", "all_rows"):
            table = getattr(day, told)
            self.assertIsInstance(table, dict)
            table["cash"] = 99
            for key in list(table)[:-1]:
                table[key] = 77
            self.assertIsNot(getattr(day, told), getattr(day, told))
        self.assertEqual(told_of(day), told_of(other))
        self.assertEqual(day, other)

    def test_deeds_by_name(self):
        day = example()
        for name in ("pay", "shop"):
            self.assertIn(name, day)
            self.assertEqual(day[name].name, name)
        for name in ("cash", "tip", "", "A b", "pay.0"):
            self.assertNotIn(name, day)
            self.named(UnknownName, name, lambda: day[name])

    def test_not_iterated(self):
        for day in (Day(), example()):
            for work in (iter, list, tuple, sorted):
                self.assertRaises(TypeError, work, day)

    def test_tables(self):
        day = Day().with_table("t", ["p", "q", "r", "s"]).with_table(parts=("t",), name="u")
        self.assertEqual(day.all_tables, {"t": ("p", "q", "r", "s"), "u": ("t",)})
        for name in NO_NAMES:
            self.named(InvalidName, name, day.with_table, name, ("p",))
            self.named(InvalidName, name, day.with_table, name, ("A", "p"))
            self.named(InvalidName, name, day.with_table, "t", ("p", name, "B"))
        self.named(Taken, "t", day.with_table, "t", ("x",))
        parts = ["p"]
        day = day.with_table("v", parts)
        parts.append("q")
        self.assertEqual(day.all_tables["v"], ("p",))

    def test_choices(self):
        day = Day().with_choice("a", 2).with_choice(many=3, name="b", prices=[0, 10 ** 9, 4])
        self.assertEqual(day.choices, choices_of(a=2, b=3))
        self.assertEqual((day.standing, day.prices), ({"a": 0, "b": 0}, {"a": (1, 1), "b": (0, 10 ** 9, 4)}))
        self.assertEqual(Day().with_choice("d", 4).prices, {"d": (1, 1, 1, 1)})
        for name in NO_NAMES:
            self.named(InvalidName, name, day.with_choice, name, 2)
        self.named(Taken, "a", day.with_choice, "a", 3)
        self.named(InvalidName, "a.1", opened(example(), "pay").with_choice, "a.1", 2)
        self.assertRaises(TypeError, day.with_choice, "c", 2, (1, 1))

    def test_choice_numbers(self):
        day = Day().with_choice("a", 2).with_choice("b", 2).without_choice("b").with_choice("c", 2)
        self.assertEqual((day.choices.number("a"), day.choices.number("c")), (0, 2))
        self.assertIs(day == Day().with_choice("a", 2).with_choice("c", 2), False)
        self.assertIs(day.without_choice("c") == Day().with_choice("a", 2), True)

    def test_standing(self):
        day = Day().with_choice("a", 2).with_choice("b", 4)
        later = day.stands("b", 3).stands(option=1, name="a")
        self.assertEqual((day.standing, later.standing), ({"a": 0, "b": 0}, {"a": 1, "b": 3}))
        self.assertEqual(later.stands("a", 0).standing, {"a": 0, "b": 3})
        self.named(UnknownName, "c", day.stands, "c", 0)

    def test_left_out_choices(self):
        day = Day().with_choice("a", 2).with_choice("b", 4).stands("b", 2)
        later = day.without_choice(name="a")
        self.assertEqual((later.choices.names, later.standing, later.prices), (("b",), {"b": 2}, {"b": (1, 1, 1, 1)}))
        self.named(UnknownName, "c", day.without_choice, "c")
        self.named(UnknownName, "a.1", day.without_choice, "a.1")

    def test_cells(self):
        day = Day().with_choice("c", 3).with_cell("x", 5).with_cell(value="w", name="y")
        self.assertEqual(day.all_cells, {"x": 5, "y": "w"})
        day = day.with_cell("x", [1, None, "w"], choice="c")
        self.assertEqual(day.all_cells, {"x": ("c", (1, None, "w")), "y": "w"})
        self.assertEqual(day.with_cell("x", -7).all_cells, {"x": -7, "y": "w"})
        self.assertEqual(day.with_cell("x", (None, None, None), choice="c").all_cells["x"], ("c", (None, None, None)))
        self.assertEqual(day.with_cell("x", None).all_cells, {"y": "w"})
        self.assertEqual(day.with_cell("z", None), day)
        for name in NO_NAMES:
            self.named(InvalidName, name, day.with_cell, name, 1)
            self.named(InvalidName, name, day.with_cell, name, None)
            self.named(InvalidName, name, day.with_cell, name, (1, 2), choice="none")
        self.named(UnknownName, "d", day.with_cell, "x", (1, 2), choice="d")
        self.assertRaises(TypeError, day.with_cell, "x", (1, 2, 3), "c")

    def test_rows(self):
        day = Day().with_table("t", ("p", "q")).with_choice("c", 3)
        day = day.with_row("t", 1, [2, "a"]).with_row(values=("b", -3), key="k", table="t", only=[["c", 1]])
        self.assertEqual(day.all_rows, {("t", 1): ((2, "a"), ()), ("t", "k"): (("b", -3), (("c", 1),))})
        self.assertEqual(day.with_row("t", 1, (5, 6)).all_rows[("t", 1)], ((5, 6), ()))
        self.assertEqual(day.without_row("t", 1).all_rows, {("t", "k"): (("b", -3), (("c", 1),))})
        self.assertEqual(day.without_row(key="k", table="t").all_rows, {("t", 1): ((2, "a"), ())})
        self.named(UnknownName, "u", day.with_row, "u", 1, (1,))
        self.named(UnknownName, "u", day.with_row, "u", 1, (1,), only=(("d", 0),))
        self.named(UnknownName, "u", day.without_row, "u", 1)
        for key in (2, -1, "b", "t", "p"):
            self.named(UnknownName, key, day.without_row, "t", key)
        self.assertRaises(TypeError, day.with_row, "t", 1, (1, 2), ())

    def test_rules(self):
        day = Day().with_rule("f", ["v", "w"], ["+", ["my", "v"], 1]).with_rule(expression=5, params=(), name="a")
        self.assertEqual(day.rules, (("f", ("v", "w"), ("+", ("my", "v"), 1)), ("a", (), 5)))
        self.assertEqual(day.without_rule(name="f").rules, (("a", (), 5),))
        for name in NO_NAMES:
            self.named(InvalidName, name, day.with_rule, name, ("A",), 1)
            self.named(InvalidName, name, day.with_rule, "f", ("v", "v", name, "A"), 1)
        self.named(Taken, "f", day.with_rule, "f", ("v", "v"), 1)
        self.named(Taken, "v", day.with_rule, "g", ("w", "v", "u", "v", "w"), 1)
        self.named(Taken, "w", day.with_rule, "g", ["v", "w", "w", "v"], 1)
        self.named(UnknownName, "g", day.without_rule, "g")

    def test_deeds(self):
        day = Day().with_choice("c", 3).with_deed(Deed("a", ((),)))
        day = day.with_deed(Deed("b", ((), (), SAYING), "c")).with_deed(at=0, deed=Deed("d", [[]], None, [["c", 2]]))
        day = day.with_deed(Deed("e", ((),)), 2).with_deed(Deed("f", ((),)), at=4).with_deed(Deed("g", ((),)), None)
        self.assertEqual(day.names, ("d", "a", "e", "b", "f", "g"))
        self.assertEqual(tuple(deed.name for deed in day.deeds), day.names)
        self.assertEqual(day["d"].only, (("c", 2),))
        self.named(Taken, "a", day.with_deed, Deed("a", ()))
        self.named(InvalidDeed, "x", day.with_deed, Deed("x", ()))
        self.named(InvalidDeed, "x", day.with_deed, Deed("x", ((), ())))
        for many in (0, 1, 2, 4):
            self.named(InvalidDeed, "x", day.with_deed, Deed("x", ((),) * many, "c", (("none", 1),)))
        self.raises(Unready, {"where": "x", "name": "n"}, day.with_deed, Deed("x", ((),) * 7, "n"))

    def test_deeds_are_not_opened(self):
        opened = Deed("a", (SAYING,)).with_opened(0)
        self.assertIsNone(Day().with_deed(opened)["a"].opened)
        self.assertEqual(Day().with_deed(opened), Day().with_deed(Deed("a", (SAYING,))))
        self.assertEqual(opened.opened, 0)

    def test_other_sayings(self):
        day = example().with_deed(Deed("one", ((("drop", "x"),),), None, (("tip", 1),)))
        later = day.with_saying("pay", 0, [["tell", ["+", 1, 2]]])
        self.assertEqual(later["pay"], Deed("pay", ((("tell", ("+", 1, 2)),), SAYING), "tip"))
        self.assertEqual(day.with_saying("pay", 1, ())["pay"], Deed("pay", ((), ()), "tip"))
        later = day.with_saying(saying=SAYING, name="one", option=0)
        self.assertEqual(later["one"], Deed("one", (SAYING,), None, (("tip", 1),)))
        self.assertEqual(later.names, day.names)
        self.named(UnknownName, "none", day.with_saying, "none", 0, ())

    def test_moved(self):
        day = Day()
        for name in "abcd":
            day = day.with_deed(Deed(name, ((("put", name, 1),),)))
        for name in "abcd":
            for at in range(4):
                names = [other for other in "abcd" if other != name]
                names.insert(at, name)
                later = day.moved(name, at)
                self.assertEqual(later.names, tuple(names))
                self.assertEqual([deed.name for deed in later.deeds], names)
                self.assertEqual([later[word] == day[word] for word in "abcd"], [True] * 4)
        self.assertEqual(day.moved(at=0, name="b").names, ("b", "a", "c", "d"))
        self.named(UnknownName, "e", day.moved, "e", 0)

    def test_left_out_deeds(self):
        day = example().without_deed(name="pay")
        self.assertEqual((day.names, len(day)), (("shop",), 1))
        self.assertEqual(day["shop"], example()["shop"])
        self.named(UnknownName, "pay", day.without_deed, "pay")
        self.assertEqual(day.with_deed(example()["pay"], 0), example())


class OpenedTest(RaisesTest):
    def test_opened(self):
        day = opened(example().stands("buy", 1), "shop")
        self.assertEqual(day["shop"].opened, 1)
        self.assertIsNone(day["pay"].opened)
        self.assertEqual(day.choices.names, ("tip", "buy", "shop.0", "shop.1"))
        self.assertIs(day == example(), False)
        for work, args in ((day.with_saying, (0, ())), (day.with_saying, (1, ())), (day.without_deed, ())):
            self.named(Opened, "shop", work, "shop", *args)
        for row in ("shop.0", "shop.1"):
            self.named(Opened, "shop", day.without_choice, row)
        self.named(UnknownName, "shop.2", day.without_choice, "shop.2")
        self.named(UnknownName, "pay.0", day.without_choice, "pay.0")

    def test_stays_opened(self):
        day = opened(example().stands("buy", 1), "shop")
        for later in (day.moved("shop", 0), day.stands("buy", 0), day.stands("shop.0", 1), day.with_cell("z", 1),
                      day.with_saying("pay", 0, SAYING), day.without_deed("pay"), day.with_deed(Deed("a", ((),)), 0)):
            self.assertEqual(later["shop"], day["shop"])
            self.assertEqual(later["shop"].opened, 1)

    def test_choices_of_rows_may_be_named(self):
        day = opened(example().stands("buy", 1), "shop")
        day = day.with_cell("z", (1, 2), choice="shop.0").with_deed(Deed("a", ((), ()), "shop.1", (("shop.0", 1),)))
        day = day.with_rule("f", (), ("chosen", "shop.1", 1))
        self.raises(Unready, {"where": "g", "name": "shop.2"}, day.with_rule, "g", (), ("chosen", "shop.2", 0))
        self.named(Opened, "shop", day.without_choice, "shop.0")

    def test_other_choices_may_be_left_out(self):
        day = opened(example().with_choice("shop", 2).stands("buy", 1), "shop")
        self.assertNotIn("shop", day.without_choice("shop").choices)
        self.named(Opened, "shop", day.without_choice, "shop.1")
        # Behind this its choices are gone.
        self.named(UnknownName, "shop.1", closed(day, "shop").without_choice, "shop.1")


class EqualTest(RaisesTest):
    def test_equal(self):
        self.assertIs(Day() == Day(), True)
        self.assertIs(full_day() == full_day(), True)
        self.assertIs(full_day().with_cell("a", 1).with_cell("a", None) == full_day(), True)
        # Cells, rows and tables have no order.
        self.assertIs(Day().with_cell("x", 1).with_cell("y", 2) == Day().with_cell("y", 2).with_cell("x", 1), True)
        self.assertTrue(Day().with_table("t", ("p",)).with_table("u", ("p",))
                        == Day().with_table("u", ("p",)).with_table("t", ("p",)))

    def test_one_part_differs(self):
        day = full_day()
        deed = day["last"]
        others = (
            day.with_table("z", ("p",)), day.with_choice("z", 2), day.stands("c", 1), day.with_cell("z", 1),
            day.with_cell("cash", 11), day.with_cell("cash", "w"), day.with_cell("cash", None),
            day.with_cell("x", (1, None, "v"), choice="c"), day.with_cell("x", (1, 1, 1), choice="c"),
            day.with_cell("cash", (10, 10), choice="tip"), day.with_row("u", "l", (5,)), day.with_row("u", "k", (6,)),
            day.with_row("u", "k", (5,), only=(("c", 0),)), day.with_row("t", 1, (2, "a"), only=(("tip", 0), ("c", 1))),
            day.without_row("u", "k"), day.with_rule("h", (), 1), day.with_deed(Deed("z", ((),))),
            day.without_deed("last"), day.moved("shop", 0), day.with_saying("last", 0, ()), day.with_saying("pay", 0, SAYING),
            day.without_deed("last").with_deed(Deed("last", deed.sayings, None, (("c", 1),))),
            day.without_deed("last").with_deed(Deed("last", deed.sayings)), opened(day, "last"),
            day.without_deed("last").without_rule("g").without_rule("f").with_rule("g", (), 1),
        )
        for at, other in enumerate(others):
            self.assertIs(day == other, False, at)
            self.assertTrue(day != other, at)
            self.assertIs(other == day, False, at)

    def test_opened(self):
        """A saying without rows may be opened, too: only this tells the days apart."""
        day = full_day().with_saying("last", 0, ())
        self.assertEqual(told_of(opened(day, "last"))[:-1], told_of(day)[:-1])
        self.assertIs(opened(day, "last") == day, False)
        self.assertIs(opened(day, "last") == opened(day, "last"), True)

    def test_prices_of_standing_options(self):
        one, other = (Day().with_choice("c", 2, prices=prices) for prices in ((0, 5), (1, 5)))
        self.assertIs(one == other, False)
        self.assertIs(Day().with_choice("c", 2, prices=(1, 1)) == Day().with_choice("c", 2), True)

    def test_numbers_of_choices(self):
        one = Day().with_choice("a", 2).with_choice("b", 2)
        self.assertIs(one == Day().with_choice("b", 2).with_choice("a", 2), False)
        self.assertIs(one == Day().with_choice("z", 2).with_choice("a", 2).with_choice("b", 2).without_choice("z"), False)

    def test_order_of_rules(self):
        one = Day().with_rule("f", (), 1).with_rule("g", (), 2)
        self.assertIs(one == Day().with_rule("g", (), 2).with_rule("f", (), 1), False)
        self.assertIs(one == Day().with_rule("f", ("v",), 1).with_rule("g", (), 2), False)

    def test_other_classes(self):
        for other in (None, 0, (), {}, "", Choices(), Deed("a", ((),)), object()):
            self.assertIs(Day() == other, False)
            self.assertIs(other == Day(), False)


class EditsTest(RaisesTest):
    """Rows of edits at random, held against plain lists and dicts."""

    def test_edits(self):
        done = 0
        for seed in range(60):
            rows, day, kept, given = random.Random(seed), full_day(), [], 3
            for _ in range(40):
                work, args, more = self.edit(rows)
                before = told_of(day)
                try:
                    later = getattr(day, work)(*args, **more)
                except (InvalidDeed, InvalidName, Opened, Taken, UnknownName, Unready):
                    self.assertEqual(told_of(day), before)
                    continue
                done += 1
                self.assertEqual(told_of(later), self.edited(before, work, args, more, given), (work, args))
                given += work == "with_choice"
                kept.append((day, before))
                day = later
            for earlier, told in kept:
                self.assertEqual(told_of(earlier), told)
        self.assertGreater(done, 800)

    def edit(self, rows):
        name, choice, option = rows.choice("abcx"), rows.choice(("c", "tip", "buy", "n")), rows.randrange(3)
        return rows.choice((
            ("with_table", (rows.choice("tuvw"), ["p"]), {}),
            ("with_choice", (name, 2 + option), {"prices": [option] * (2 + option)}),
            ("stands", (rows.choice(("tip", "c")), option % 2), {}),
            ("with_cell", (name, rows.choice((None, 5, "w"))), {}),
            ("with_cell", (name, [1, None, 2][:2 + option % 2]), {"choice": choice}),
            ("with_row", (rows.choice("tu"), rows.choice((1, 2, "k")), [1, "w"][:1 + option % 2]), {"only": [[choice, option]]}),
            ("without_row", (rows.choice("tu"), rows.choice((1, 2, "k"))), {}),
            ("with_rule", (name, ["v"], ["chosen", choice, option]), {}),
            ("without_rule", (rows.choice("fgabc"),), {}),
            ("with_deed", (Deed(name, [[["tell", ["chosen", choice, option]]]]), rows.choice((None, 0, 1))), {}),
            ("with_saying", (rows.choice(("pay", "shop", "last")), 0, [["tell", option]]), {}),
            ("moved", (rows.choice(("pay", "shop", "last", name)), rows.randrange(2)), {}),
            ("without_deed", (rows.choice(("pay", "shop", "last", name)),), {}),
            ("without_choice", (rows.choice(("tip", "c", "a", "b")),), {}),
        ))

    def edited(self, told, work, args, more, given):
        """What a day tells behind an edit; so many numbers of choices were given before."""
        names, numbers, standing, prices, tables, cells, kept, rules, deeds, sayings = told
        standing, prices, tables, cells, kept = dict(standing), dict(prices), dict(tables), dict(cells), dict(kept)
        rules, deeds = list(rules), list(sayings)
        if work == "with_table":
            tables[args[0]] = ("p",)
        elif work == "with_choice":
            names, numbers = (*names, args[0]), [*numbers, (args[1], given)]
            standing[args[0]], prices[args[0]] = 0, tuple(more["prices"])
        elif work == "stands":
            standing[args[0]] = args[1]
        elif work == "with_cell":
            cells[args[0]] = (more["choice"], tuple(args[1])) if more else args[1]
            if args[1] is None:
                del cells[args[0]]
        elif work == "with_row":
            kept[args[0], args[1]] = (tuple(args[2]), tuple(tuple(pair) for pair in more["only"]))
        elif work == "without_row":
            del kept[args[0], args[1]]
        elif work == "with_rule":
            rules.append((args[0], tuple(args[1]), tuple(args[2])))
        elif work == "without_rule":
            rules = [rule for rule in rules if rule[0] != args[0]]
        elif work == "with_deed":
            deed = args[0]
            deeds.insert(len(deeds) if args[1] is None else args[1],
                         (deed.name, deed.sayings, deed.choice, deed.only, None))
        elif work == "with_saying":
            deeds = [(row[0], ((("tell", args[2][0][1]),), *row[1][1:]), *row[2:]) if row[0] == args[0] else row
                     for row in deeds]
        elif work in ("moved", "without_deed"):
            row = [row for row in deeds if row[0] == args[0]][0]
            deeds.remove(row)
            if work == "moved":
                deeds.insert(args[1], row)
        else:
            at = names.index(args[0])
            names, numbers = names[:at] + names[at + 1:], numbers[:at] + numbers[at + 1:]
            del standing[args[0]], prices[args[0]]
        return (names, numbers, standing, prices, tables, cells, kept, tuple(rules),
                tuple(row[0] for row in deeds), deeds)
