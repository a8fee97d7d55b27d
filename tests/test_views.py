"""Runs and views ([25], [26]), and questions asked of views ([29])."""

import unittest

from hadnot.days import Day, Deed
from hadnot.errors import UnknownName, Unready
from hadnot.plain import run
from hadnot.questions import Found
from hadnot.views import View
from hadnot.worths import Worth
from helpers import all_worlds, choices_of

YES = ("not", ("has", "nowhere"))


def example():
    day = Day().with_cell("cash", 10).with_choice("tip", 2).with_choice("buy", 2)
    day = day.with_deed(Deed("pay", [[], [("put", "cash", ("-", "cash", 4))]], "tip"))
    return day.with_deed(
        Deed("shop", [[], [("need", ("<", 6, "cash")), ("put", "cash", ("-", "cash", 6))]], "buy"))


def full_day():
    """Cells, rows and deeds by choices."""
    day = Day().with_choice("a", 3).with_choice("b", 2).with_choice("c", 2).stands("c", 1)
    day = day.with_cell("x", (1, "w", None), choice="a").with_cell("y", 5).with_cell("z", (None, None), choice="b")
    day = day.with_table("t", ("p", "q")).with_table("u", ("p",))
    day = day.with_row("t", 3, (1, 2)).with_row("t", 1, ("k", "l"), only=[("a", 1)])
    day = day.with_row("t", "m", (7, 8), only=(("b", 1), ["c", 0])).with_row("u", 0, (0,), only=[("b", 0), ("b", 1)])
    day = day.with_rule("twice", ("v",), ("*", ("my", "v"), 2))
    day = day.with_deed(Deed("one", [[("tell", "x")], [("put", "x", 2), ("tell", "x")], []], "a"))
    day = day.with_deed(Deed("two", [[("insert", "t", 9, ("x", "y")), ("tell", ("done", "one"))]], only=[("b", 1)]))
    return day.with_deed(Deed("three", [[("tell", 1), ("drop", "y"), ("need", ("done", "two")), ("tell", 2)]]))


class RunTest(unittest.TestCase):
    def test_example(self):
        view = run(example(), {"tip": 1, "buy": 1})
        self.assertEqual((view["cash"], view.refusal("shop"), view.done("pay")), (6, (0, "need"), True))
        self.assertIsInstance(view, View)
        wanted = {(0, 0): 10, (1, 0): 6, (0, 1): 4, (1, 1): 6}
        for (tip, buy), cash in wanted.items():
            self.assertEqual(run(example(), {"tip": tip, "buy": buy})["cash"], cash)

    def test_world(self):
        day = full_day()
        self.assertEqual(run(day, {}).world, {"a": 0, "b": 0, "c": 0})
        world = {"b": 1}
        view = run(day, world)
        self.assertEqual((view.world, world), ({"a": 0, "b": 1, "c": 0}, {"b": 1}))
        world["b"] = 0
        view.world["b"] = 0
        self.assertEqual(view.world, {"a": 0, "b": 1, "c": 0})
        self.assertEqual(run(Day(), {}).world, {})

    def test_beginning(self):
        day = full_day()
        for world in all_worlds(day.choices):
            view = run(day, world)
            x = (1, "w", None)[world["a"]]
            self.assertEqual((view.value("x", behind=""), view.value("y", behind="")), (x, 5))
            self.assertIsNone(view.value("z", behind=""))
            keys = [1] if world["a"] == 1 else []
            keys = [*keys, 3] + (["m"] if (world["b"], world["c"]) == (1, 0) else [])
            self.assertEqual(view.keys_of("t", behind=""), tuple(keys))
            self.assertEqual(view.keys_of("u", behind=""), ())
            self.assertEqual(view.row_of("t", 3, behind=""), (1, 2))
            self.assertEqual(view.row_of("t", 1, behind=""), ("k", "l") if world["a"] == 1 else None)

    def test_all_worlds(self):
        day = full_day()
        for world in all_worlds(day.choices):
            view = run(day, world)
            x = (1, 2, None)[world["a"]]
            self.assertEqual(view.refusal("one"), None)
            self.assertEqual(view.told("one"), ((), ((1, 2),), ((0, 1),))[2 - world["a"]])
            self.assertEqual((view.is_there("one"), view.done("one")), (True, world["a"] < 2))
            self.assertEqual(view.is_there("two"), world["b"] == 1)
            two = world["b"] == 1 and x is not None
            self.assertEqual(view.done("two"), two)
            self.assertEqual(view.refusal("two"), (0, "missing") if world["b"] == 1 and x is None else None)
            self.assertEqual(view.told("two"), ((1, True),) if two else ())
            self.assertEqual(view.row_of("t", 9), (x, 5) if two else None)
            self.assertEqual(view.row_of("t", 9, behind="one"), None)
            self.assertEqual((view.is_there("three"), view.done("three")), (True, two))
            self.assertEqual(view.refusal("three"), None if two else (2, "need"))
            self.assertEqual(view.told("three"), ((0, 1), (3, 2)) if two else ())
            self.assertEqual((view["y"], "y" in view), (None, False) if two else (5, True))
            self.assertEqual((view["x"], "x" in view), (x, x is not None))
            self.assertEqual(view.value("x"), view.value("x", behind="three"))
            self.assertEqual(view.value("y", behind="two"), 5)

    def test_only_of_a_deed(self):
        day = Day().with_choice("a", 2).with_choice("b", 2)
        day = day.with_deed(Deed("go", [[("tell", 0)], [("tell", 1)]], "a", only=(("a", 1), ("b", 1))))
        told = {(world["a"], world["b"]): run(day, world).told("go") for world in all_worlds(day.choices)}
        self.assertEqual(told, {(0, 0): (), (0, 1): (), (1, 0): (), (1, 1): ((0, 1),)})

    def test_standing_does_not_count(self):
        self.assertEqual(run(full_day(), {}).world["c"], 0)

    def test_behind(self):
        day = example()
        view = run(day, {"tip": 1, "buy": 0})
        self.assertEqual([view.value("cash", behind=name) for name in ("", "pay", "shop", None)], [10, 6, 6, 6])
        self.assertEqual(view.value("cash"), 6)
        empty = run(Day().with_cell("c", 3).with_table("t", ("p",)).with_row("t", 1, (2,)), {})
        self.assertEqual([empty.value("c", behind=name) for name in ("", None)], [3, 3])
        self.assertEqual((empty.keys_of("t"), empty.row_of("t", 1, behind=None)), ((1,), (2,)))
        for name in ("no", "cash", "tip"):
            with self.assertRaises(UnknownName) as caught:
                view.value("nix", behind=name)
            self.assertEqual(caught.exception.name, name)

    def test_rows(self):
        view = run(full_day(), {"a": 1, "b": 1})
        self.assertEqual(view.keys_of("t"), (1, 3, 9, "m"))
        self.assertEqual(view.row_of(table="t", key="m", behind="one"), (7, 8))
        self.assertIsNone(view.row_of("t", "z"))
        self.assertIsNone(view.row_of("t", True))
        self.assertIsNone(view.row_of("t", None))
        for table in ("v", "x"):
            with self.assertRaises(UnknownName) as caught:
                view.keys_of(table)
            self.assertEqual(caught.exception.name, table)
            with self.assertRaises(UnknownName) as caught:
                view.row_of(table, 1)
            self.assertEqual(caught.exception.name, table)
            with self.assertRaises(UnknownName) as caught:
                view.row_of(table, 1, behind="nix")
            self.assertEqual(caught.exception.name, "nix")
            with self.assertRaises(UnknownName) as caught:
                view.keys_of(table, behind="nix")
            self.assertEqual(caught.exception.name, "nix")

    def test_unknown_deeds(self):
        view = run(full_day(), {})
        for method in (view.is_there, view.done, view.refusal, view.told):
            for name in ("nix", "x", ""):
                with self.assertRaises(UnknownName) as caught:
                    method(name)
                self.assertEqual(caught.exception.name, name)
        self.assertEqual(view.done(deed="one"), True)

    def test_objects(self):
        view = run(full_day(), {})
        with self.assertRaises(TypeError):
            iter(view)
        with self.assertRaises(TypeError):
            list(view)
        self.assertNotEqual(view, {})
        self.assertEqual([view["x"], "nix" in view, view["nix"]], [1, False, None])
        with self.assertRaises(TypeError):
            view.value("x", "one")
        self.assertEqual(run(day=full_day(), world={})["x"], 1)
        # A run changes neither the day nor another view.
        day = full_day()
        first = run(day, {"a": 1, "b": 1})
        run(day, {"b": 1})
        self.assertEqual(day, full_day())
        self.assertEqual((first.row_of("t", 9), first.keys_of("t", behind="")), ((2, 5), (1, 3, "m")))


class AskTest(unittest.TestCase):
    def setUp(self):
        self.view = run(full_day(), {"a": 1, "b": 1})

    def test_expressions(self):
        ask = self.view.ask
        self.assertEqual([ask("x", behind=name) for name in ("", "one", "two", None)], ["w", 2, 2, 2])
        self.assertEqual([ask("y", behind=name) for name in ("two", "three")], [5, None])
        self.assertEqual(ask(("call", "twice", "x")), 4)
        self.assertEqual(ask(["call", "twice", ["+", "x", 1]]), 6)
        self.assertIsNone(ask(("call", "twice", "x"), behind=""))
        self.assertIsNone(ask(("my", "v")))
        self.assertEqual(ask(("sum", "r", "t", ("<", ("my", "r"), 4), 1), behind=""), None)
        self.assertEqual(ask(("count", "r", "t", YES)), 4)
        self.assertEqual(ask(("part", "t", 9, "p")), 2)
        self.assertIs(ask(("chosen", "a", 1)), True)
        self.assertEqual(ask(5), 5)

    def test_done(self):
        self.assertIs(self.view.ask(("done", "two")), True)
        self.assertIs(self.view.ask(("done", "two"), behind="two"), True)
        for name, behind in (("two", "one"), ("one", ""), ("three", "two"), ("nix", None)):
            with self.assertRaises(Unready) as caught:
                self.view.ask(("done", name), behind=behind)
            self.assertEqual((caught.exception.where, caught.exception.name), ("", name))
        self.assertIs(run(full_day(), {"a": 2}).ask(("done", "three")), False)

    def test_unready(self):
        wanted = [
            (("stands", "v", 1), "v"), (("part", "v", 1, "p"), "v"), (("part", "t", 1, "r"), "r"),
            (("part", "t", ("stands", "v", 1), "r"), "v"), (("call", "no", 1), "no"), (("call", "twice"), "twice"),
            (("call", "twice", 1, 2), "twice"), (("call", "twice", ("call", "no")), "no"),
            (("call", "twice", ("call", "no"), 1), "twice"), (("chosen", "d", 0), "d"), (("chosen", "a", 3), "a"),
            (("chosen", "b", 2), "b"), (("done", "four"), "four"), (("count", "r", "v", YES), "v"),
            (("sum", "r", "t", ("chosen", "d", 0), ("done", "four")), "d"),
            (("low", "r", "t", YES, ("done", "four")), "four"), (("+", "x", ("chosen", "a", 3)), "a"),
            (("when", ("stands", "v", 1), ("stands", "s", 1), 1), "v")]
        for expression, name in wanted:
            with self.assertRaises(Unready) as caught:
                self.view.ask(expression)
            self.assertEqual((caught.exception.where, caught.exception.name), ("", name), expression)
            with self.assertRaises(UnknownName) as caught:
                self.view.ask(expression, behind="nix")
            self.assertEqual(caught.exception.name, "nix")
            with self.assertRaises(Unready) as caught:
                self.view.answer(("rows", [("r", "t")], expression, ()))
            self.assertEqual((caught.exception.where, caught.exception.name), ("", name), expression)
        # Cells and locals need not be there.
        self.assertIsNone(self.view.ask("no"))


class AnswerTest(unittest.TestCase):
    def setUp(self):
        day = Day().with_table("t", ("a", "b")).with_table("u", ("a",)).with_table("none", ("a",))
        rows = {5: (1, "x"), -1: (2, "y"), "k": (1, 9), 7: ("w", "x"), "j": (10 ** 18 - 1, "x")}
        for key, parts in rows.items():
            day = day.with_row("t", key, parts)
        day = day.with_row("u", 5, (0,)).with_row("u", "k", (1,)).with_cell("n", 3)
        self.day = day.with_deed(Deed("go", [[("delete", "t", 7), ("put", "n", 4)]]))
        self.view = run(self.day, {})

    def rows(self, condition, expressions, pairs=(("r", "t"),), behind=None):
        return self.view.answer(("rows", pairs, condition, expressions), behind=behind)

    def groups(self, condition, by, how, expression=None, behind=None):
        return self.view.answer(("groups", "r", "t", condition, by, how, expression), behind=behind)

    def test_rows(self):
        r, a = ("my", "r"), ("part", "t", ("my", "r"), "a")
        self.assertEqual(self.rows(YES, ()), (((-1,), ()), ((5,), ()), (("j",), ()), (("k",), ())))
        self.assertEqual(self.rows(YES, (r, "n"), behind=""), (
            ((-1,), (-1, 3)), ((5,), (5, 3)), ((7,), (7, 3)), (("j",), ("j", 3)), (("k",), ("k", 3))))
        self.assertEqual(self.rows(("<", r, 6), (a,)), (((-1,), (2,)), ((5,), (1,))))
        self.assertEqual(self.rows(YES, (("+", a, 1), a)), (
            ((-1,), (3, 2)), ((5,), (2, 1)), (("j",), (None, 10 ** 18 - 1)), (("k",), (2, 1))))
        for condition in (1, "no", ("has", "no"), ("+", 1, r), r):
            self.assertEqual(self.rows(condition, (r,)), ())
        self.assertEqual(self.rows(YES, [r], pairs=[["r", "none"]]), ())

    def test_pairs(self):
        r, s = ("my", "r"), ("my", "s")
        pairs = (("r", "u"), ("s", "t"))
        self.assertEqual([keys for keys, _ in self.rows(YES, (), pairs)], [
            (5, -1), (5, 5), (5, "j"), (5, "k"), ("k", -1), ("k", 5), ("k", "j"), ("k", "k")])
        self.assertEqual(self.rows(("=", r, s), [("stands", "u", s), ("part", "u", r, "a")], pairs), (
            ((5, 5), (True, 0)), (("k", "k"), (True, 1))))
        self.assertEqual(self.rows(("<", s, r), (("+", r, s), ("*", r, r)), pairs), (
            ((5, -1), (4, 25)), (("k", "j"), (None, None))))
        self.assertEqual(self.rows(YES, (), (("r", "u"), ("s", "none"))), ())
        self.assertEqual(self.rows(YES, (), (("r", "none"), ("s", "u"))), ())

    def test_groups(self):
        r, a, b = ("my", "r"), ("part", "t", ("my", "r"), "a"), ("part", "t", ("my", "r"), "b")
        self.assertEqual(self.groups(YES, b, "count"), (((9,), (1,)), (("x",), (2,)), (("y",), (1,))))
        self.assertEqual(self.groups(YES, b, "count", behind=""), (((9,), (1,)), (("x",), (3,)), (("y",), (1,))))
        # A word and a sum with too many digits.
        self.assertEqual(self.groups(YES, b, "sum", a, behind=""), (((9,), (1,)), (("x",), (None,)), (("y",), (2,))))
        self.assertEqual(self.groups(YES, b, "sum", a), (((9,), (1,)), (("x",), (None,)), (("y",), (2,))))
        self.assertEqual(self.groups(YES, b, "low", a), (((9,), (1,)), (("x",), (1,)), (("y",), (2,))))
        self.assertEqual(self.groups(YES, b, "high", a), (((9,), (1,)), (("x",), (10 ** 18 - 1,)), (("y",), (2,))))
        self.assertEqual(self.groups(YES, b, "high", a, behind=""), (((9,), (1,)), (("x",), (None,)), (("y",), (2,))))
        self.assertEqual(self.groups(YES, ("stands", "u", r), "count"), (((False,), (2,)), ((True,), (2,))))
        self.assertEqual(self.groups(YES, ("when", ("stands", "u", r), 1, YES), "count"), (((1,), (2,)), ((True,), (2,))))
        # Rows with a fault in C or B are left out, as rows are of which C is no truth.
        self.assertEqual(self.groups(("<", r, 6), b, "count"), ((("x",), (1,)), (("y",), (1,))))
        self.assertEqual(self.groups(YES, ("+", r, 1), "count"), (((0,), (1,)), ((6,), (1,))))
        self.assertEqual(self.groups(YES, ("+", r, 1), "sum", "no"), (((0,), (None,)), ((6,), (None,))))
        self.assertEqual(self.groups(YES, ("+", r, 1), "sum", YES), (((0,), (None,)), ((6,), (None,))))
        self.assertEqual(self.groups(r, b, "count"), ())
        self.assertEqual(self.groups(("has", "no"), b, "count"), ())
        self.assertEqual(self.view.answer(("groups", "r", "none", YES, 1, "low", 1)), ())
        self.assertEqual(self.view.answer(["groups", "r", "u", YES, 0, "low", ["my", "r"]]), (((0,), (None,)),))

    def test_sums_so_far(self):
        day = Day().with_table("t", ("a",))
        for key, part in enumerate((10 ** 18 - 1, 1, -1)):
            day = day.with_row("t", key, (part,))
        a = ("part", "t", ("my", "r"), "a")
        view = run(day, {})
        self.assertEqual(view.answer(("groups", "r", "t", YES, 0, "sum", a)), (((0,), (None,)),))
        self.assertEqual(view.answer(("groups", "r", "t", YES, ("=", ("my", "r"), 1), "sum", a)), (
            ((False,), (10 ** 18 - 2,)), ((True,), (1,))))
        self.assertEqual(view.answer(("groups", "r", "t", YES, 0, "sum", ("-", 0, a))), (((0,), (None,)),))

    def test_unready(self):
        late = ("done", "late")
        wanted = [
            (("rows", (("r", "v"), ("s", "w")), late, (late,)), "v"), (("rows", (("r", "t"), ("s", "w")), late, ()), "w"),
            (("rows", (("r", "t"),), ("stands", "v", 1), (late,)), "v"), (("rows", (("r", "t"),), YES, (1, late)), "late"),
            (("groups", "r", "v", late, 1, "count", None), "v"), (("groups", "r", "t", late, ("stands", "v", 1), "sum", 1), "late"),
            (("groups", "r", "t", YES, ("call", "f"), "sum", late), "f"), (("groups", "r", "t", YES, 1, "sum", late), "late")]
        for question, name in wanted:
            with self.assertRaises(Unready) as caught:
                self.view.answer(question)
            self.assertEqual((caught.exception.where, caught.exception.name), ("", name), question)
            with self.assertRaises(UnknownName) as caught:
                self.view.answer(question, behind="nix")
            self.assertEqual(caught.exception.name, "nix")
        done = ("rows", (("r", "u"),), ("done", "go"), ())
        self.assertEqual(len(self.view.answer(done)), 2)
        with self.assertRaises(Unready):
            self.view.answer(done, behind="")

    def test_nothing_changes(self):
        question = ["rows", [["r", "t"]], YES, [("my", "r")]]
        first = self.view.answer(question=question)
        self.assertEqual(question, ["rows", [["r", "t"]], YES, [("my", "r")]])
        self.view.answer(("groups", "r", "t", YES, 1, "count", None))
        self.assertEqual(self.view.answer(question), first)


class FoundTest(unittest.TestCase):
    def test_rows(self):
        choices = choices_of(a=2)
        here, there = Worth.by(choices, "a", (True, False)), Worth(choices, True)
        rows = (((1,), here, (Worth.by(choices, "a", (5, None)),)), (("k",), there, (Worth.by(choices, "a", (None, 6)),)))
        found = Found(rows)
        self.assertEqual((found.rows, len(found), list(found)), (rows, 2, list(rows)))
        self.assertEqual(found({}), (((1,), (5,)), (("k",), (None,))))
        self.assertEqual(found({"a": 1}), ((("k",), (6,)),))
        self.assertEqual([row for row in found], list(rows))


if __name__ == "__main__":
    unittest.main()
