"""Lifts ([27]), and questions asked of them ([29], [30]), against the runs of worlds ([1])."""

import random
import unittest
from unittest import mock

from hadnot.days import Day, Deed
from hadnot.errors import TooWide, UnknownName, Unready
from hadnot.lifts import Lift
from hadnot.plain import run
from hadnot.worths import Worth
from comparing import Comparing
from helpers import all_worlds, drawn, worth_of
from random_days import CELLS, Maker

YES = ("not", ("has", "nowhere"))


def example():
    day = Day().with_cell("cash", 10).with_choice("tip", 2).with_choice("buy", 2)
    day = day.with_deed(Deed("pay", [[], [("put", "cash", ("-", "cash", 4))]], "tip"))
    return day.with_deed(
        Deed("shop", [[], [("need", ("<", 6, "cash")), ("put", "cash", ("-", "cash", 6))]], "buy"))


class AgainstRuns(Comparing):
    def test_small_days_in_all_worlds(self):
        for seed in range(70):
            maker = Maker(seed)
            day = maker.day()
            lift, worlds = Lift(day), all_worlds(day.choices)
            views = self.compare(day, lift, worlds)
            for behind in ("", *day.names, None):
                self.ask(maker, lift, worlds, views, behind)

    def test_what_is_forgotten(self):
        """What operations have made is kept for speed alone."""
        for seed in range(8):
            day = Maker(seed).day()
            with mock.patch.multiple("hadnot.pools", MOST_KEPT=10):
                lift = Lift(day)
                self.compare(day, lift, all_worlds(day.choices))
            self.assertEqual([lift[cell] for cell in CELLS], [Lift(day)[cell] for cell in CELLS])

    def test_large_days_in_drawn_worlds(self):
        rows = random.Random(4)
        compared = 0
        for seed in range(40):
            maker = Maker(seed)
            day = maker.day(choices=26, deeds=6)
            try:
                lift = Lift(day)
                worlds = [{name: rows.randrange(day.choices[name]) for name in day.choices.names} for _ in range(25)]
                views = self.compare(day, lift, worlds)
                self.ask(maker, lift, worlds, views, None)
                compared += 1
            except TooWide:
                continue
        self.assertGreater(compared, 25)


class LiftTest(unittest.TestCase):
    def test_example(self):
        lift = Lift(example())
        self.assertEqual(lift["cash"].nodes, (('number', 10), ('number', 4), ('buy', (0, 1)), ('number', 6), ('tip', (2, 3))))
        self.assertEqual(lift.day, example())
        self.assertEqual(str(lift.value("cash", behind="pay")), "10 ; 6 ; tip(0 1)")
        self.assertEqual(str(lift.value(cell="cash", behind="")), "10")
        row, word = lift.refusal("shop")
        self.assertEqual((str(row), str(word)), ("none ; 0 ; buy(0 1) ; tip(0 2)", "none ; 'need ; buy(0 1) ; tip(0 2)"))
        self.assertEqual(str(lift.done("pay")), "false ; true ; tip(0 1)")
        self.assertEqual(str(lift.is_there("pay")), "true")

    def test_forms(self):
        for seed in range(100, 130):
            day = Maker(seed).day(choices=5)
            lift, worlds = Lift(day), all_worlds(day.choices)
            told = {tuple(world.items()): run(day, world) for world in worlds}
            for cell in CELLS:
                worth = lift[cell]
                self.assertIsInstance(worth, Worth)
                self.assertEqual(worth.choices, day.choices)
                wanted = drawn(day.choices, lambda world: told[tuple(world.items())][cell])
                self.alike(worth.nodes, wanted)
                self.assertEqual(worth, worth_of(day.choices, lambda world: told[tuple(world.items())][cell]))

    def alike(self, one, other):
        self.assertEqual(repr(one), repr(other))

    def test_cells(self):
        day = Day().with_choice("a", 2).with_cell("x", (1, None), choice="a").with_cell("z", (None, None), choice="a")
        day = day.with_cell("y", "w").with_deed(Deed("d", [[("drop", "y")]])).with_deed(Deed("e", [[("put", "y", 1)]], only=[("a", 1)]))
        lift = Lift(day)
        self.assertEqual(["x" in lift, "y" in lift, "z" in lift, "nix" in lift], [True, True, False, False])
        self.assertEqual([str(lift[cell]) for cell in ("x", "y", "z", "nix")], ["1 ; none ; a(0 1)", "none ; 1 ; a(0 1)", "none", "none"])
        self.assertEqual(str(lift.value("y", behind="d")), "none")
        self.assertEqual([str(lift.value("y", behind=name)) for name in ("", "e", None)], ["'w", "none ; 1 ; a(0 1)", "none ; 1 ; a(0 1)"])
        lift = Lift(day.without_deed("e"))
        self.assertNotIn("y", lift)
        self.assertEqual(str(Lift(Day().with_cell("c", 3)).value("c")), "3")

    def test_rows(self):
        day = Day().with_choice("a", 2).with_table("t", ("p", "q")).with_row("t", "k", (1, 2)).with_row("t", 5, (3, "w"), only=[("a", 1)])
        day = day.with_row("t", 9, (0, 0), only=[("a", 0), ("a", 1)])
        day = day.with_deed(Deed("d", [[("insert", "t", -1, ("x", 0))], [("delete", "t", ("word", "k"))]], "a")).with_cell("x", 8)
        lift = Lift(day)
        self.assertEqual(lift.keys_of("t", behind=""), (5, "k"))
        self.assertEqual(lift.keys_of(table="t"), (-1, 5, "k"))
        for key, texts in ((-1, ("true ; false ; a(0 1)", "8 ; none ; a(0 1)", "0 ; none ; a(0 1)")),
                           (5, ("false ; true ; a(0 1)", "none ; 3 ; a(0 1)", "none ; 'w ; a(0 1)")),
                           ("k", ("true ; false ; a(0 1)", "1 ; none ; a(0 1)", "2 ; none ; a(0 1)")),
                           (9, ("false", "none", "none")), ("z", ("false", "none", "none")), (True, ("false", "none", "none"))):
            stands, parts = lift.row_of("t", key)
            self.assertIsInstance(parts, tuple)
            self.assertEqual((str(stands), *[str(part) for part in parts]), texts)
        stands, parts = lift.row_of(table="t", key="k", behind="")
        self.assertEqual((str(stands), [str(part) for part in parts]), ("true", ["1", "2"]))

    def test_told(self):
        day = Day().with_choice("a", 2).with_choice("b", 2).with_table("t", ("p",)).with_table("u", ("p",))
        for key in (2, 1):
            day = day.with_row("t", key, (0,)).with_row("u", f"k{key}", (0,), only=[("b", key - 1)])
        r, s = ("my", "r"), ("my", "s")
        first = [("tell", 1), ("each", "r", "t", [("tell", r), ("each", "s", "u", [("if", ("=", r, 1), [("tell", s)], [])])]),
                 ("tell", 7), ("if", ("chosen", "b", 1), [("tell", 2), ("need", ("has", "x"))], [])]
        day = day.with_deed(Deed("d", [first, [("tell", ("chosen", "b", 1))]], "a"))
        told = Lift(day).told("d")
        self.assertEqual([(row, keys, str(worth)) for row, keys, worth in told], [
            (0, (), "1 ; none ; b(0 1) ; a(2 1)"), (2, (1,), "1 ; none ; b(0 1) ; a(2 1)"),
            (5, (1, "k1"), "'k1 ; none ; b(0 1) ; a(2 1)"), (2, (2,), "2 ; none ; b(0 1) ; a(2 1)"),
            (6, (), "7 ; none ; b(0 1) ; a(2 1)"), (0, (), "none ; false ; true ; b(1 2) ; a(0 3)")])
        self.assertEqual(Lift(day.without_deed("d").with_deed(Deed("e", [[]]))).told("e"), ())

    def test_missing_is_a_word(self):
        day = Day().with_choice("a", 2).with_deed(Deed("d", [[], [("tell", 1), ("drop", "x")]], "a"))
        self.assertIsInstance(Lift(day).refusal("d"), tuple)
        row, word = Lift(day).refusal("d")
        self.assertEqual((row.nodes, word.nodes), ((("none", None), ("number", 1), ("a", (0, 1))),
                                                   (("none", None), ("word", "missing"), ("a", (0, 1)))))
        self.assertEqual([str(worth) for worth in Lift(Day().with_deed(Deed("d", [[]]))).refusal("d")], ["none", "none"])

    def test_errors(self):
        lift = Lift(example().with_table("t", ("p",)))
        for method in (lift.is_there, lift.done, lift.refusal, lift.told):
            with self.assertRaises(UnknownName) as caught:
                method("cash")
            self.assertEqual(caught.exception.name, "cash")
        for method, parts in ((lift.value, ("cash",)), (lift.keys_of, ("u",)), (lift.row_of, ("u", 1)), (lift.ask, (("stands", "u", 1),)),
                              (lift.answer, (("rows", (("v", "u"),), 1, ()),))):
            with self.assertRaises(UnknownName) as caught:
                method(*parts, behind="nix")
            self.assertEqual(caught.exception.name, "nix")
            with self.assertRaises(TypeError):
                method(*parts, None)
        for method, parts in ((lift.keys_of, ("u",)), (lift.row_of, ("u", 1))):
            with self.assertRaises(UnknownName) as caught:
                method(*parts, behind="pay")
            self.assertEqual(caught.exception.name, "u")
        with self.assertRaises(TypeError):
            iter(lift)
        self.assertNotEqual(lift, Lift(example()))

    def test_unready(self):
        lift = Lift(example().with_table("t", ("p",)).with_rule("f", ("v",), 1))
        cases = [(("stands", "u", 1), "u"), (("part", "t", 1, "q"), "q"), (("call", "f"), "f"), (("call", "g", 1), "g"),
                 (("chosen", "tip", 2), "tip"), (("done", "nix"), "nix"), (("+", ("chosen", "no", 0), ("done", "nix")), "no")]
        for expression, name in cases:
            for method, what in ((lift.ask, expression), (lift.answer, ["rows", [["v", "t"]], expression, []])):
                with self.assertRaises(Unready) as caught:
                    method(what)
                self.assertEqual((caught.exception.where, caught.exception.name), ("", name))
        with self.assertRaises(Unready) as caught:
            lift.ask(("done", "shop"), behind="pay")
        self.assertEqual(caught.exception.name, "shop")
        self.assertEqual(str(lift.ask(("done", "pay"), behind="pay")), "false ; true ; tip(0 1)")
        self.assertEqual(str(lift.ask(["call", "f", ["+", 1, "cash"]])), "1")

    def test_asking_changes_nothing(self):
        lift = Lift(example())
        first = [lift["cash"], lift.ask(("<", "cash", 7)), lift.done("shop")]
        lift.ask(("*", "cash", "cash"))
        lift.answer(("rows", (), YES, ("cash",)))
        self.assertEqual([lift["cash"], lift.ask(("<", "cash", 7)), lift.done("shop")], first)

    def test_answers(self):
        day = Day().with_choice("a", 2).with_table("t", ("p",)).with_row("t", 1, (5,)).with_row("t", 2, (6,), only=[("a", 1)])
        lift = Lift(day)
        r, p = ("my", "r"), ("part", "t", ("my", "r"), "p")
        found = lift.answer(question=("rows", (("r", "t"), ("s", "t")), ("<", r, 2), (p, ("my", "s"))))
        self.assertEqual([(keys, str(told), [str(value) for value in values]) for keys, told, values in found], [
            ((1, 1), "true", ["5", "1"]), ((1, 2), "false ; true ; a(0 1)", ["none ; 5 ; a(0 1)", "none ; 2 ; a(0 1)"])])
        self.assertEqual((len(found), found({}), found({"a": 1})), (2, (((1, 1), (5, 1)),), (((1, 1), (5, 1)), ((1, 2), (5, 2)))))
        self.assertEqual(list(found), list(found.rows))
        found = lift.answer(("groups", "r", "t", YES, ("when", ("<", p, 6), YES, 3), "sum", p))
        self.assertEqual([(keys, str(told), [str(value) for value in values]) for keys, told, values in found], [
            ((3,), "false ; true ; a(0 1)", ["none ; 6 ; a(0 1)"]), ((True,), "true", ["5"])])
        self.assertEqual(found({}), (((True,), (5,)),))
        self.assertEqual(lift.answer(("groups", "r", "t", 1, 1, "count", None)).rows, ())
        found = lift.answer(("groups", "r", "t", YES, 0, "high", ("when", ("<", r, 2), r, "nix")))
        self.assertEqual(str(found.rows[0][2][0]), "1 ; none ; a(0 1)")


if __name__ == "__main__":
    unittest.main()
