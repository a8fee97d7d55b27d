"""Expressions and rows of sayings in one world ([15] to [17])."""

import unittest

from hadnot.days import Day, Deed
from hadnot.plain import run

NINES = 10 ** 18 - 1


def base():
    """Cells, a table with number and word keys, one without rows, and a choice."""
    day = Day().with_choice("c", 3).with_choice("d", 2).stands("c", 2)
    day = day.with_cell("n", 5).with_cell("m", -2).with_cell("w", "abc").with_cell("big", NINES)
    day = day.with_table("t", ("a", "b")).with_table("none", ("a",))
    day = day.with_row("t", 10, (1, "x")).with_row("t", -3, (7, "y")).with_row("t", "k", (4, 9)).with_row(
        "t", 2, ("q", 3))
    day = day.with_rule("zero", (), 7).with_rule("sub", ("p", "q"), ("-", ("my", "p"), ("my", "q")))
    day = day.with_rule("outer", ("p",), ("my", "v"))
    params = tuple(f"p{at}" for at in range(9))
    body = ("my", "p0")
    for name in params[1:]:
        body = ("+", ("*", body, 10), ("my", name))
    return day.with_rule("nine", params, body)


def outcome(expression, before=(), day=None, world=None):
    """What a row tells, or the word with which it is refused."""
    made = (base() if day is None else day).with_deed(Deed("go", [[*before, ("tell", expression)]]))
    view = run(made, world or {})
    if view.refusal("go") is not None:
        number, word = view.refusal("go")
        return (word,)
    return view.told("go")[-1][1]


class ExpressionTest(unittest.TestCase):
    def told(self, expression, wanted, before=(), world=None):
        got = outcome(expression, before, world=world)
        self.assertEqual((type(got), got), (type(wanted), wanted), expression)

    def all_told(self, rows):
        for expression, wanted in rows:
            self.told(expression, wanted)

    def test_simple_forms(self):
        self.all_told([
            (0, 0), (-5, -5), (NINES, NINES), (("word", "kind"), "kind"), ("n", 5), ("w", "abc"),
            ("x", ("missing",)), (("my", "v"), ("missing",)), (("my", "n"), ("missing",)),
            (("has", "n"), True), (("has", "x"), False), (("has", "t"), False),
            (("chosen", "c", 0), True), (("chosen", "c", 2), False)])
        self.told(("my", "v"), 5, [("let", "v", "n")])
        self.told(("my", "v"), True, [("let", "v", ("has", "n"))])
        self.told(("chosen", "c", 2), True, world={"c": 2})
        self.told(("chosen", "c", 0), False, world={"c": 2})

    def test_parts_and_standing(self):
        self.all_told([
            (("part", "t", 10, "a"), 1), (("part", "t", 10, "b"), "x"), (("part", "t", ("word", "k"), "b"), 9),
            (("part", "t", "m", "a"), ("missing",)), (("part", "t", ("word", "z"), "a"), ("missing",)),
            (("part", "none", 0, "a"), ("missing",)), (("part", "t", ("has", "n"), "a"), ("kind",)),
            (("part", "none", ("has", "n"), "a"), ("kind",)), (("part", "t", "x", "a"), ("missing",)),
            (("part", "t", ("+", "w", 1), "a"), ("kind",)),
            (("stands", "t", 2), True), (("stands", "t", 1), False), (("stands", "t", ("word", "k")), True),
            (("stands", "none", 2), False), (("stands", "t", ("not", ("has", "n"))), ("kind",)),
            (("stands", "t", "x"), ("missing",))])
        # For Python True is 1: a truth is no key all the same.
        day = Day().with_table("t", ("a",)).with_row("t", 1, (5,)).with_row("t", 0, (6,))
        for truth in (("has", "x"), ("not", ("has", "x"))):
            self.assertEqual(outcome(("stands", "t", truth), day=day), ("kind",))
            self.assertEqual(outcome(("part", "t", truth, "a"), day=day), ("kind",))

    def test_numbers(self):
        self.all_told([
            (("+", "n", "m"), 3), (("-", "n", "m"), 7), (("*", "n", "m"), -10),
            (("least", "n", "m"), -2), (("most", "n", "m"), 5), (("least", 3, 3), 3),
            (("+", "big", 0), NINES), (("+", "big", 1), ("great",)), (("-", ("-", 0, "big"), 1), ("great",)),
            (("-", ("-", 0, "big"), 0), -NINES), (("*", "big", -1), -NINES), (("*", "big", 2), ("great",)),
            (("*", 10 ** 9, 10 ** 9), ("great",)), (("*", 10 ** 9, -10 ** 9), ("great",)),
            (("least", "big", ("-", 0, "big")), -NINES)])
        for sign in ("+", "-", "*", "least", "most"):
            self.all_told([((sign, "n", "w"), ("kind",)), ((sign, "w", "n"), ("kind",)), ((sign, "w", "w"), ("kind",)),
                           ((sign, ("has", "n"), 1), ("kind",)), ((sign, 1, ("has", "n")), ("kind",)),
                           ((sign, "x", "w"), ("missing",)), ((sign, "w", "x"), ("missing",))])

    def test_comparisons(self):
        yes, no = ("has", "n"), ("has", "x")
        self.all_told([
            (("<", "m", "n"), True), (("<", "n", "m"), False), (("<", 5, "n"), False),
            (("<", "w", ("word", "abd")), True), (("<", ("word", "b"), "w"), False), (("<", "w", "w"), False),
            (("<", "n", "w"), ("kind",)), (("<", "w", "n"), ("kind",)), (("<", no, yes), ("kind",)),
            (("<", 0, yes), ("kind",)), (("<", "x", yes), ("missing",)), (("<", yes, "x"), ("missing",)),
            (("=", 5, "n"), True), (("=", 4, "n"), False), (("=", "w", ("word", "abc")), True),
            (("=", "w", ("word", "abd")), False), (("=", yes, yes), True), (("=", yes, no), False),
            (("=", 1, yes), ("kind",)), (("=", no, 0), ("kind",)), (("=", "n", "w"), ("kind",)),
            (("=", "x", ("+", 1, "w")), ("missing",)), (("=", ("+", 1, "w"), "x"), ("kind",))])

    def test_truths(self):
        yes, no = ("has", "n"), ("has", "x")
        self.all_told([
            (("and", yes, yes), True), (("and", yes, no), False), (("and", no, yes), False), (("and", no, no), False),
            (("or", yes, yes), True), (("or", yes, no), True), (("or", no, yes), True), (("or", no, no), False),
            (("and", no, 1), False), (("or", yes, 1), True), (("and", no, "x"), False), (("or", yes, "x"), True),
            (("and", yes, 1), ("kind",)), (("or", no, 1), ("kind",)), (("and", yes, "x"), ("missing",)),
            (("or", no, "x"), ("missing",)), (("and", 1, "x"), ("kind",)), (("or", 0, "x"), ("kind",)),
            (("and", "x", 1), ("missing",)), (("or", "x", 1), ("missing",)), (("and", 1, yes), ("kind",)),
            (("or", 0, yes), ("kind",)), (("not", yes), False), (("not", no), True), (("not", 0), ("kind",)),
            (("not", "w"), ("kind",)), (("not", "x"), ("missing",)),
            (("when", yes, 1, 2), 1), (("when", no, 1, 2), 2), (("when", yes, 1, "x"), 1), (("when", no, "x", "w"), "abc"),
            (("when", 1, "x", "x"), ("kind",)), (("when", "x", 1, 2), ("missing",)), (("when", yes, "x", 1), ("missing",)),
            (("when", no, 1, ("+", "w", 1)), ("kind",)), (("when", yes, no, 1), False)])

    def test_calls(self):
        self.all_told([
            (("call", "zero"), 7), (("call", "sub", 9, 4), 5), (("call", "sub", "w", "x"), ("missing",)),
            (("call", "sub", "w", 1), ("kind",)), (("call", "sub", "x", ("+", 1, "w")), ("missing",)),
            (("call", "sub", ("+", 1, "w"), "x"), ("kind",)), (("call", "sub", ("*", "big", 2), "w"), ("great",)),
            (("call", "nine", 1, 2, 3, 4, 5, 6, 7, 8, 9), 123456789)])
        # The body sees nothing but the values.
        self.told(("call", "outer", 1), ("missing",), [("let", "v", 3)])
        self.told(("+", ("call", "sub", 5, 1), ("my", "p")), 24, [("let", "p", 20)])
        # A value that the body does not use has its fault all the same.
        self.told(("call", "outer", "x"), ("missing",))
        self.told(("call", "outer", ("not", 1)), ("kind",))

    def test_counts(self):
        numbers = ("not", ("=", ("my", "r"), -3))
        key, a = ("my", "r"), ("part", "t", ("my", "r"), "a")
        yes, no = ("has", "n"), ("has", "x")
        self.all_told([
            (("count", "r", "t", yes), 4), (("count", "r", "t", no), 0), (("count", "r", "none", 1), 0),
            (("count", "r", "none", "x"), 0), (("count", "r", "t", 1), ("kind",)), (("count", "r", "t", "x"), ("missing",)),
            # With a word among the keys a number is of another kind.
            (("count", "r", "t", numbers), ("kind",)), (("count", "r", "t", ("stands", "none", key)), 0),
            (("sum", "r", "t", no, "x"), 0), (("sum", "r", "none", yes, "x"), 0), (("sum", "r", "t", yes, 3), 12),
            (("sum", "r", "t", yes, "w"), ("kind",)), (("sum", "r", "t", yes, yes), ("kind",)),
            (("sum", "r", "t", yes, a), ("kind",)), (("sum", "r", "t", 0, "x"), ("kind",)),
            (("sum", "r", "t", "x", "w"), ("missing",)), (("sum", "r", "t", yes, "x"), ("missing",)),
            (("low", "r", "t", yes, 3), 3), (("low", "r", "none", yes, 3), ("missing",)),
            (("high", "r", "none", 1, 3), ("missing",)), (("high", "r", "t", no, "x"), ("missing",)),
            (("low", "r", "t", 1, 3), ("kind",)), (("high", "r", "t", yes, "w"), ("kind",)),
            (("high", "r", "t", yes, yes), ("kind",)), (("low", "r", "t", "x", 3), ("missing",))])

    def test_rows_in_order(self):
        """The keys -3, 2, 10 and k, of which some are left out by what they are."""
        a = ("part", "t", ("my", "r"), "a")
        day = base().with_table("f", ("a",)).with_row("f", -3, (0,)).with_row("f", 10, (0,)).with_row("f", "k", (0,))
        chosen = ("stands", "f", ("my", "r"))
        for how, wanted in (("sum", 12), ("low", 1), ("high", 7)):
            self.assertEqual(outcome((how, "r", "t", chosen, a), day=day), wanted)
        self.assertEqual(outcome(("count", "r", "t", chosen), day=day), 3)
        # C of a later row has a fault behind an E of an earlier one, and the other way round.
        # The row 2 has a word as its part a; the row k is the first of which "<" has another kind.
        first = ("<", ("my", "r"), 100)
        self.assertEqual(outcome(("sum", "r", "t", first, a), day=day), ("kind",))
        self.assertEqual(outcome(("sum", "r", "t", first, ("when", ("=", ("my", "r"), 10), "x", 1)), day=day),
                         ("missing",))
        self.assertEqual(outcome(("sum", "r", "t", first, 1), day=day), ("kind",))

    def test_great_sums(self):
        day = Day().with_table("t", ("a",)).with_row("t", 1, (NINES,)).with_row("t", 2, (1,)).with_row("t", 3, (-1,))
        a, yes = ("part", "t", ("my", "r"), "a"), ("not", ("has", "x"))
        self.assertEqual(outcome(("sum", "r", "t", yes, a), day=day), ("great",))
        without = ("not", ("=", ("my", "r"), 2))
        self.assertEqual(outcome(("sum", "r", "t", without, a), day=day), NINES - 1)
        # The sum is looked at with its row, ahead of faults of later rows.
        late = ("when", ("=", ("my", "r"), 3), "x", yes)
        self.assertEqual(outcome(("sum", "r", "t", late, a), day=day), ("great",))
        early = ("when", ("=", ("my", "r"), 2), "x", yes)
        self.assertEqual(outcome(("sum", "r", "t", early, a), day=day), ("missing",))
        self.assertEqual(outcome(("sum", "r", "t", yes, ("-", 0, a)), day=day), ("great",))

    def test_locals_of_counts(self):
        r = ("my", "r")
        self.told(r, 40, [("let", "r", 40), ("let", "s", ("count", "r", "t", ("has", "n")))])
        self.told(r, ("missing",), [("let", "s", ("count", "r", "t", ("has", "n")))])
        self.told(("+", ("count", "r", "t", ("has", "n")), r), 44, [("let", "r", 40)])
        inner = ("+", ("count", "r", "t", ("=", r, r)), ("when", ("stands", "t", r), 100, 0))
        self.told(("sum", "r", "t", ("has", "n"), inner), 416)
        crossed = ("count", "r", "t", ("<", 1, ("count", "s", "t", ("stands", "t", ("my", "r")))))
        self.told(crossed, 4)

    def test_done(self):
        day = base().with_choice("e", 2).with_deed(Deed("there", [[("let", "v", 1)]]))
        day = day.with_deed(Deed("bare", [[]])).with_deed(Deed("no", [[("need", ("has", "x"))]]))
        day = day.with_deed(Deed("away", [[("let", "v", 1)]], only=[("e", 1)]))
        day = day.with_deed(Deed("half", [[], [("let", "v", 1)]], "e"))
        for name, wanted in (("there", (True, True)), ("bare", (False, False)), ("no", (False, False)),
                             ("away", (False, True)), ("half", (False, True))):
            got = [outcome(("done", name), day=day, world={"e": option}) for option in (0, 1)]
            self.assertEqual(tuple(got), wanted, name)

    def test_deep(self):
        deep = 1
        for _ in range(40):
            deep = ("+", deep, 1)
        self.told(deep, 41)
        deep = ("my", "v")
        for _ in range(30):
            deep = ("when", ("not", ("has", "x")), deep, "x")
        self.told(deep, 3, [("let", "v", 3)])


class RowTest(unittest.TestCase):
    def run_rows(self, rows, day=None, world=None):
        made = (base() if day is None else day).with_deed(Deed("go", [rows]))
        return run(made, world or {})

    def refused(self, rows, wanted, day=None):
        """The rows are refused; nothing that they wrote or told is left."""
        view = self.run_rows(rows, day)
        self.assertEqual(view.refusal("go"), wanted, rows)
        self.assertEqual(view.told("go"), ())
        self.assertFalse(view.done("go"))
        for cell in ("n", "m", "w", "big", "x", "y"):
            self.assertEqual(view.value(cell), view.value(cell, behind=""))
        for table in ("t", "none"):
            self.assertEqual(view.keys_of(table), view.keys_of(table, behind=""))
            for key in view.keys_of(table):
                self.assertEqual(view.row_of(table, key), view.row_of(table, key, behind=""))

    def test_cells(self):
        view = self.run_rows([("put", "n", ("+", "n", 1)), ("put", "x", "n"), ("put", "w", 3), ("drop", "m"),
                              ("put", "y", ("word", "z")), ("drop", "y"), ("put", "big", "big")])
        self.assertEqual([view[cell] for cell in ("n", "x", "w", "m", "y", "big")], [6, 6, 3, None, None, NINES])
        self.refused([("put", "n", 1), ("put", "x", ("has", "n"))], (1, "kind"))
        self.refused([("put", "n", 1), ("put", "x", "y")], (1, "missing"))
        self.refused([("drop", "n"), ("drop", "x")], (1, "missing"))
        self.refused([("drop", "n"), ("drop", "n")], (1, "missing"))
        self.refused([("put", "x", 1), ("drop", "x"), ("put", "y", "x")], (2, "missing"))

    def test_let_and_tell(self):
        view = self.run_rows([("tell", 1), ("let", "v", ("has", "n")), ("tell", ("my", "v")), ("let", "v", "w"),
                              ("tell", ("my", "v"))])
        self.assertEqual(view.told("go"), ((0, 1), (2, True), (4, "abc")))
        self.refused([("tell", 1), ("let", "v", "x")], (1, "missing"))
        self.refused([("tell", 1), ("tell", ("+", "w", 1))], (1, "kind"))

    def test_insert(self):
        view = self.run_rows([("insert", "t", 0, (1, "w")), ("insert", "t", ("word", "a"), ("n", 2)),
                              ("insert", "none", -5, [("word", "n")])])
        self.assertEqual(view.keys_of("t"), (-3, 0, 2, 10, "a", "k"))
        self.assertEqual([view.row_of("t", 0), view.row_of("t", "a")], [(1, "abc"), (5, 2)])
        self.assertEqual(view.row_of("none", -5), ("n",))
        yes = ("has", "n")
        self.refused([("insert", "t", 0, (1, 1)), ("insert", "t", 0, (1, 1))], (1, "there"))
        self.refused([("insert", "t", ("word", "k"), (1, 1))], (0, "there"))
        self.refused([("insert", "t", yes, (1, 1))], (0, "kind"))
        self.refused([("insert", "t", 10, (1, yes))], (0, "kind"))
        self.refused([("insert", "t", 10, (yes, 1))], (0, "kind"))
        self.refused([("insert", "t", yes, (1, "x"))], (0, "missing"))
        self.refused([("insert", "t", yes, ("x", ("+", "w", 1)))], (0, "missing"))
        self.refused([("insert", "t", "x", (("+", "w", 1), 1))], (0, "missing"))
        self.refused([("insert", "t", 10, (("+", "big", 1), "x"))], (0, "great"))

    def test_change(self):
        view = self.run_rows([("change", "t", 10, "a", "w"), ("change", "t", 10, "b", ("part", "t", 10, "a")),
                              ("change", "t", ("word", "k"), "b", 0)])
        self.assertEqual([view.row_of("t", 10), view.row_of("t", "k"), view.row_of("t", -3)],
                         [("abc", "abc"), (4, 0), (7, "y")])
        day = Day().with_table("t", ("a", "b", "c")).with_row("t", 1, (1, 2, 3))
        for part, wanted in (("a", (9, 2, 3)), ("b", (1, 9, 3)), ("c", (1, 2, 9))):
            self.assertEqual(self.run_rows([("change", "t", 1, part, 9)], day).row_of("t", 1), wanted)
        yes = ("has", "n")
        self.refused([("change", "t", 10, "a", 0), ("change", "t", 11, "a", 1)], (1, "missing"))
        self.refused([("change", "t", 11, "a", yes)], (0, "kind"))
        self.refused([("change", "t", yes, "a", 1)], (0, "kind"))
        self.refused([("change", "t", yes, "a", "x")], (0, "missing"))
        self.refused([("change", "t", 10, "a", yes)], (0, "kind"))
        self.refused([("change", "t", "x", "a", ("+", 1, "w"))], (0, "missing"))
        self.refused([("change", "none", 10, "a", 1)], (0, "missing"))

    def test_delete(self):
        view = self.run_rows([("delete", "t", 10), ("delete", "t", ("word", "k"))])
        self.assertEqual(view.keys_of("t"), (-3, 2))
        self.assertEqual((view.row_of("t", 10), view.row_of("t", "k")), (None, None))
        self.refused([("delete", "t", 10), ("delete", "t", 10)], (1, "missing"))
        self.refused([("delete", "t", ("has", "n"))], (0, "kind"))
        self.refused([("delete", "none", ("has", "n"))], (0, "kind"))
        self.refused([("delete", "t", "x")], (0, "missing"))
        view = self.run_rows([("delete", "t", 10), ("insert", "t", 10, (0, 0))])
        self.assertEqual(view.row_of("t", 10), (0, 0))

    def test_need(self):
        view = self.run_rows([("need", ("has", "n")), ("put", "n", 0)])
        self.assertEqual((view["n"], view.done("go"), view.refusal("go")), (0, True, None))
        self.refused([("put", "n", 0), ("need", ("has", "x")), ("put", "n", "x")], (1, "need"))
        self.refused([("put", "n", 0), ("need", 1)], (1, "kind"))
        self.refused([("put", "n", 0), ("need", "x")], (1, "missing"))
        self.refused([("need", ("has", "x")), ("need", 1)], (0, "need"))

    def test_ifs(self):
        yes, no = ("has", "n"), ("has", "x")
        rows = [("if", yes, [("tell", 1), ("let", "v", 5)], [("tell", 2)]), ("tell", ("my", "v")),
                ("if", no, [("tell", 3)], [("tell", 4), ("if", no, [], [("let", "v", 6)])]), ("tell", ("my", "v")),
                ("if", no, [("tell", 3)], ())]
        self.assertEqual(self.run_rows(rows).told("go"), ((1, 1), (4, 5), (7, 4), (10, 6)))
        self.refused([("tell", 1), ("if", 1, (), ())], (1, "kind"))
        self.refused([("tell", 1), ("if", "x", (), ())], (1, "missing"))
        self.refused([("if", yes, (), [("need", no)]), ("need", no)], (2, "need"))
        self.refused([("if", no, [("need", no)], [("tell", 1), ("need", no)])], (3, "need"))
        self.refused([("if", yes, [("if", yes, [("put", "x", 1)], [("drop", "x")]), ("drop", "y")], [])], (4, "missing"))

    def test_loops(self):
        rows = [("let", "s", 0), ("each", "r", "t", [("tell", ("my", "r")), ("let", "s", ("+", ("my", "s"), 1))]),
                ("tell", ("my", "s")), ("each", "r", "none", [("tell", "x")]), ("tell", ("my", "s"))]
        self.assertEqual(self.run_rows(rows).told("go"), ((2, -3), (2, 2), (2, 10), (2, "k"), (4, 4), (7, 4)))
        self.refused([("each", "r", "t", [("tell", 1), ("need", ("<", ("my", "r"), 10))])], (2, "need"))
        self.refused([("each", "r", "t", [("tell", 1), ("need", ("<", ("my", "r"), 11))])], (2, "kind"))

    def test_the_local_of_a_loop(self):
        r = ("my", "r")
        rows = [("let", "r", 40), ("each", "r", "t", [("let", "r", 1), ("let", "q", r)]), ("tell", r), ("tell", ("my", "q"))]
        self.assertEqual(self.run_rows(rows).told("go"), ((4, 40), (5, 1)))
        self.refused([("each", "r", "t", [("let", "r", 1)]), ("tell", r)], (2, "missing"))
        self.refused([("each", "r", "none", [("let", "r", 1)]), ("tell", r)], (2, "missing"))
        rows = [("each", "r", "t", [("each", "r", "t", [("let", "r", 0)]), ("tell", r)])]
        self.assertEqual([value for _, value in self.run_rows(rows).told("go")], [-3, 2, 10, "k"])
        rows = [("let", "r", 7), ("each", "r", "none", []), ("tell", r)]
        self.assertEqual(self.run_rows(rows).told("go"), ((2, 7),))
        # A turn begins with its key, whatever the last one has set.
        rows = [("each", "r", "t", [("tell", r), ("let", "r", 0)])]
        self.assertEqual([value for _, value in self.run_rows(rows).told("go")], [-3, 2, 10, "k"])

    def test_the_rows_of_a_loop_change(self):
        r = ("my", "r")
        rows = [("each", "r", "t", [("tell", r), ("if", ("stands", "none", r), [], [("insert", "none", r, (0,))]),
                                    ("if", ("stands", "t", 77), [], [("insert", "t", 77, (0, 0))])]),
                ("tell", ("count", "r", "t", ("has", "n")))]
        view = self.run_rows(rows)
        self.assertEqual([value for _, value in view.told("go")], [-3, 2, 10, "k", 5])
        self.assertEqual(view.keys_of("t"), (-3, 2, 10, 77, "k"))
        # Each key that stood when the loop began has its turn, also if its row is gone by then.
        rows = [("each", "r", "t", [("tell", r), ("tell", ("stands", "t", r)),
                                    ("if", ("stands", "t", ("word", "k")), [("delete", "t", ("word", "k"))], [])])]
        self.assertEqual([value for number, value in self.run_rows(rows).told("go") if number == 2],
                         [True, True, True, False])
        rows = [("each", "r", "t", [("delete", "t", r)]), ("each", "r", "t", [("need", ("has", "x"))])]
        view = self.run_rows(rows)
        self.assertEqual((view.keys_of("t"), view.done("go")), ((), True))
        rows = [("each", "r", "t", [("each", "s", "t", [("change", "t", ("my", "s"), "a", r)])])]
        view = self.run_rows(rows)
        self.assertEqual([view.row_of("t", key)[0] for key in view.keys_of("t")], ["k"] * 4)

    def test_row_numbers(self):
        no = ("has", "x")
        rows = [("if", no, [("let", "v", 1), ("each", "r", "t", [("let", "v", 2), ("let", "v", 3)])],
                 [("each", "r", "t", [("if", no, [("let", "v", 2)], [("tell", ("my", "r"))])]), ("tell", 9)]),
                ("each", "r", "t", ()), ("tell", 10)]
        self.assertEqual(self.run_rows(rows).told("go"), ((8, -3), (8, 2), (8, 10), (8, "k"), (9, 9), (11, 10)))

    def test_a_refused_saying_writes_nothing(self):
        self.refused([("put", "n", 1), ("put", "x", 2), ("drop", "m"), ("tell", 5), ("insert", "t", 0, (1, 1)),
                      ("change", "t", 10, "a", 2), ("delete", "t", "n")], (6, "missing"))
        day = base().with_deed(Deed("first", [[("put", "n", 1), ("need", ("has", "x"))]]))
        day = day.with_deed(Deed("then", [[("put", "m", ("+", "n", 1)), ("insert", "t", 0, (1, 2))]]))
        day = day.with_deed(Deed("last", [[("change", "t", 0, "a", 9), ("delete", "t", 10), ("drop", "x")]]))
        view = run(day, {})
        self.assertEqual((view["n"], view["m"], view.row_of("t", 0)), (5, 6, (1, 2)))
        self.assertEqual(view.keys_of("t"), (-3, 0, 2, 10, "k"))
        self.assertEqual([view.done(name) for name in day.names], [False, True, False])

    def test_locals_of_each_saying(self):
        day = base().with_deed(Deed("first", [[("let", "v", 1)]])).with_deed(Deed("then", [[("tell", ("my", "v"))]]))
        self.assertEqual(run(day, {}).refusal("then"), (0, "missing"))

    def test_a_long_run(self):
        day = Day().with_cell("n", 0).with_table("t", ("a",))
        for key in range(58):
            day = day.with_row("t", key, (key,))
        rows = [("each", "r", "t", [("each", "s", "t", [("put", "n", ("+", "n", 1)),
                                                         ("let", "k", ("count", "q", "t", ("<", ("my", "q"), 5)))])])]
        view = run(day.with_deed(Deed("go", [rows])), {})
        self.assertEqual(view["n"], 58 * 58)


if __name__ == "__main__":
    unittest.main()
