"""[22]: what a day names and what is not there, and in which order it is told."""

import itertools
import unittest

from hadnot.days import Day, Deed
from hadnot.errors import InvalidDeed, InvalidName, Taken, UnknownName, Unready
from hadnot.ready import unready_things

# Expressions on the day below with a name that is not there; the option that is
# not there is told by its choice, the wrong number of values by its rule.
MISSING = (
    (("part", "n1", 1, "p"), "n1"),
    (("part", "t", 1, "n2"), "n2"),
    (("part", "u", 1, "q"), "q"),
    (("stands", "n3", 1), "n3"),
    (("chosen", "n4", 0), "n4"),
    (("chosen", "c", 3), "c"),
    (("chosen", "n5.0", 0), "n5.0"),
    (("call", "n6"), "n6"),
    (("call", "two", 1), "two"),
    (("call", "zero", 1), "zero"),
    (("count", "v", "n7", ("has", "x")), "n7"),
    (("sum", "v", "n8", ("has", "x"), 1), "n8"),
    (("low", "v", "n9", ("has", "x"), 1), "n9"),
    (("high", "v", "n10", ("has", "x"), 1), "n10"),
    (("done", "n11"), "n11"),
    (("done", "later"), "later"),
)

# Expressions with nothing missing: cells and locals need not be there.
FINE = (1, -5, "nocell", ("word", "n"), ("my", "n"), ("has", "nocell"), ("part", "t", 1, "p"), ("part", "t", 1, "q"),
        ("stands", "u", 1), ("chosen", "c", 2), ("chosen", "d", 1), ("call", "zero"), ("call", "two", 1, 2),
        ("count", "n", "t", ("has", "x")), ("sum", "n", "u", ("has", "x"), ("my", "n")))

# Forms of expressions with so many expressions in them, in the order of the text.
FORMS = (
    (1, lambda e: ("part", "t", e, "p")), (1, lambda e: ("stands", "t", e)), (2, lambda e, f: ("+", e, f)),
    (2, lambda e, f: ("-", e, f)), (2, lambda e, f: ("*", e, f)), (2, lambda e, f: ("least", e, f)),
    (2, lambda e, f: ("most", e, f)), (2, lambda e, f: ("<", e, f)), (2, lambda e, f: ("=", e, f)),
    (2, lambda e, f: ("and", e, f)), (2, lambda e, f: ("or", e, f)), (1, lambda e: ("not", e)),
    (3, lambda e, f, g: ("when", e, f, g)), (2, lambda e, f: ("call", "two", e, f)),
    (1, lambda e: ("count", "v", "t", e)), (2, lambda e, f: ("sum", "v", "t", e, f)),
    (2, lambda e, f: ("low", "v", "t", e, f)), (2, lambda e, f: ("high", "v", "t", e, f)),
)
ROWS = (
    (1, lambda e: ("let", "v", e)), (1, lambda e: ("put", "x", e)), (3, lambda e, f, g: ("insert", "t", e, (f, g))),
    (2, lambda e, f: ("change", "t", e, "p", f)), (1, lambda e: ("delete", "t", e)), (1, lambda e: ("need", e)),
    (1, lambda e: ("tell", e)), (1, lambda e: ("each", "v", "t", (("tell", 1), ("tell", e)))),
    (4, lambda e, f, g, h: ("if", e, (("tell", f), ("tell", g)), (("tell", h),))),
)
# With a name of their own that is not there, beside expressions.
OWN = (
    (("part", "n", ("call", "m"), "p"), "n"), (("part", "t", ("call", "m"), "n"), "m"), (("part", "n", 1, "m"), "n"),
    (("stands", "n", ("call", "m")), "n"), (("call", "n", ("call", "m")), "n"), (("call", "two", ("call", "m")), "two"),
    (("call", "two", ("call", "m"), 1), "m"), (("count", "v", "n", ("call", "m")), "n"),
    (("sum", "v", "n", ("call", "m"), 1), "n"), (("low", "v", "n", ("call", "m"), 1), "n"), (("high", "v", "n", 1, ("call", "m")), "n"),
)
OWN_ROWS = (
    (("insert", "n", ("call", "m"), (1, 2)), "n"), (("insert", "t", ("call", "m"), (1,)), "t"),
    (("insert", "t", ("call", "m"), (1, 2)), "m"), (("insert", "t", 1, ()), "t"), (("insert", "t", 1, (1, 2, 3)), "t"),
    (("insert", "u", 1, (1, ("call", "m"))), "u"), (("change", "n", ("call", "m"), "p", 1), "n"),
    (("change", "t", ("call", "m"), "n", 1), "m"), (("change", "t", 1, "n", ("call", "m")), "n"),
    (("change", "u", 1, "q", 1), "q"), (("delete", "n", ("call", "m")), "n"), (("each", "v", "n", (("tell", ("call", "m")),)), "n"),
    (("if", ("call", "n"), (("tell", ("call", "m")),), ()), "n"),
)


def day():
    """A day with two tables, two choices, two rules, and a deed before and behind."""
    made = Day().with_table("t", ("p", "q")).with_table("u", ("p",)).with_choice("c", 3).with_choice("d", 2)
    made = made.with_rule("zero", (), 0).with_rule("two", ("v", "w"), 2)
    return made.with_deed(Deed("first", ((),))).with_deed(Deed("later", ((),)))


class ReadyTest(unittest.TestCase):
    def unready(self, where, name, work, *args, **more):
        with self.assertRaises(Unready, msg=args) as caught:
            work(*args, **more)
        self.assertEqual((caught.exception.where, caught.exception.name), (where, name), args)

    def in_rule(self, expression, name):
        self.unready("r", name, day().with_rule, "r", (), expression)

    def in_deed(self, rows, name):
        """In a deed, at each place of its sayings."""
        self.unready("e", name, day().with_deed, Deed("e", (rows,)), 1)
        self.unready("e", name, day().with_deed, Deed("e", (((("tell", 1),)), (), rows), "c"), 1)
        self.unready("first", name, day().with_saying, "first", 0, rows)

    def test_nothing_missing(self):
        for expression in FINE:
            self.assertEqual(day().with_rule("r", (), expression).rules[-1], ("r", (), expression))
            for many, row in ROWS:
                day().with_deed(Deed("e", ((row(*[expression] * many),),)))
        for many, form in FORMS:
            for expressions in itertools.product(FINE[:4], repeat=many):
                day().with_deed(Deed("e", ((("tell", form(*expressions)),),)))
        self.assertEqual(len(day().with_deed(Deed("e", ((("tell", ("done", "first")),),)), 1)), 3)

    def test_each_thing(self):
        for expression, name in (*MISSING, *OWN):
            self.in_rule(expression, name)
            for _, row in ROWS[5:7]:
                self.in_deed((row(expression),), name)
        for row, name in OWN_ROWS:
            self.in_deed((row,), name)
            self.in_deed((("tell", 1), row, ("tell", ("call", "m"))), name)
            self.in_deed((("if", 1, (row,), ()),), name)

    def test_in_each_form(self):
        for many, form in FORMS:
            for at in range(many):
                for expression, name in MISSING:
                    told = form(*[expression if place == at else 1 for place in range(many)])
                    self.in_rule(told, name)
                    self.in_deed((("tell", told),), name)
        for many, row in ROWS:
            for at in range(many):
                for expression, name in MISSING:
                    self.in_deed((row(*[expression if place == at else 1 for place in range(many)]),), name)

    def test_two_at_once(self):
        for many, form in FORMS:
            for one, other in itertools.permutations(MISSING, 2):
                for at, by in itertools.combinations(range(many), 2):
                    told = [1] * many
                    told[at], told[by] = one[0], other[0]
                    self.in_rule(form(*told), one[1])
        for many, row in ROWS:
            for one, other in itertools.permutations(MISSING[::3], 2):
                for at, by in itertools.combinations(range(many), 2):
                    told = [1] * many
                    told[at], told[by] = one[0], other[0]
                    self.in_deed((row(*told),), one[1])
                self.in_deed((("tell", one[0]), ("tell", other[0])), one[1])

    def test_done_stands_in_no_rule(self):
        for name in ("first", "later", "n"):
            self.in_rule(("done", name), name)
            self.in_rule(("not", ("done", name)), name)

    def test_done_names_a_deed_ahead(self):
        saying = (("need", ("done", "first")),)
        there = day().with_deed(Deed("e", (saying,)))
        self.assertEqual(there.names, ("first", "later", "e"))
        self.unready("e", "first", day().with_deed, Deed("e", (saying,)), 0)
        self.unready("e", "e", day().with_deed, Deed("e", ((("need", ("done", "e")),),)))
        self.unready("e", "first", there.without_deed, "first")
        self.unready("e", "first", there.moved, "e", 0)
        self.unready("e", "first", there.moved, "first", 2)
        self.assertEqual(there.moved("e", 1).names, ("first", "e", "later"))
        self.unready("e", "later", day().with_deed, Deed("e", ((("need", ("done", "later")),),)), 1)

    def test_rules_name_rules_ahead(self):
        there = day().with_rule("r", (), ("call", "two", 1, ("call", "zero")))
        self.unready("r", "two", there.without_rule, "two")
        self.unready("r", "zero", there.without_rule, "zero")
        self.unready("r", "r", day().with_rule, "r", ("v",), ("call", "r", 1))
        told = there.with_deed(Deed("e", ((("tell", ("call", "r")),),)))
        self.unready("e", "r", told.without_rule, "r")
        # A rule behind the one that calls it is not there for it.
        again = day().with_rule("one", (), ("call", "zero")).with_rule("last", (), 1)
        self.unready("one", "zero", again.without_rule, "zero")

    def test_cells(self):
        there = day().with_cell("y", (1, 2), choice="d").with_cell("x", (1, 2, 3), choice="c")
        self.unready("y", "d", there.without_choice, "d")
        self.unready("x", "c", there.without_choice, "c")
        for values in ((), (1,), (1, 2), (1, 2, 3, 4), [None, None]):
            self.unready("z", "c", there.with_cell, "z", values, choice="c")
        # In the order of their names, not in that in which they came.
        both = there.with_cell("a", (5, None, "w"), choice="c")
        self.unready("a", "c", both.without_choice, "c")
        self.unready("x", "c", both.with_cell("z", (5, None, "w"), choice="c").with_cell("a", 1).without_choice, "c")

    def test_rows(self):
        for values in ((), (1,), (1, 2, 3)):
            self.unready("t", "t", day().with_row, "t", 1, values)
            self.unready("t", "t", day().with_row, "t", 1, values, only=(("n", 0),))
        self.unready("u", "n", day().with_row, "u", 1, (1,), only=(("n", 0),))
        self.unready("u", "c", day().with_row, "u", 1, (1,), only=(("d", 1), ("c", 3)))
        self.unready("u", "d", day().with_row, "u", 1, (1,), only=(("d", 2), ("c", 3)))
        self.unready("u", "n", day().with_row, "u", 1, (1,), only=(("c", 2), ("n", 0), ("m", 0)))
        there = day().with_row("u", 1, (1,), only=(("c", 2), ("d", 1)))
        self.unready("u", "c", there.without_choice, "c")
        self.unready("u", "d", there.without_choice, "d")
        self.assertEqual(there.without_row("u", 1).without_choice("c").choices.names, ("d",))

    def test_deeds(self):
        self.unready("e", "n", day().with_deed, Deed("e", ((), ()), "n"))
        self.unready("e", "n", day().with_deed, Deed("e", ((),), None, (("c", 2), ("n", 0), ("m", 0))))
        self.unready("e", "c", day().with_deed, Deed("e", ((),), None, (("c", 3),)))
        self.unready("e", "c", day().with_deed, Deed("e", ((),), None, (("c", -1),)))
        wrong = (("tell", ("call", "m")),)
        self.unready("e", "n", day().with_deed, Deed("e", (wrong, ()), "n", (("m2", 0),)))
        self.unready("e", "m2", day().with_deed, Deed("e", (wrong, ()), "d", (("m2", 0),)))
        self.unready("e", "m", day().with_deed, Deed("e", (wrong, (("tell", ("call", "n")),)), "d"))
        self.unready("e", "n", day().with_deed, Deed("e", ((), (("tell", ("call", "n")),)), "d"))
        there = day().with_deed(Deed("e", ((), (), ()), "c", (("d", 1),)))
        self.unready("e", "c", there.without_choice, "c")
        self.unready("e", "d", there.without_choice, "d")

    def test_order_of_places(self):
        """One choice is named everywhere; each place that names it is told when those ahead do not any more."""
        named = ("chosen", "d", 1)
        there = day().with_cell("z", (1, 2), choice="d").with_cell("y", (1, 2), choice="d")
        there = there.with_row("u", "k", (1,), only=(("d", 0),)).with_row("u", 3, (1,), only=(("d", 0),))
        there = there.with_row("t", "z", (1, 2), only=(("d", 0),)).with_row("t", 10, (1, 2), only=(("d", 0),))
        there = there.with_row("t", 9, (1, 2), only=(("d", 0),))
        there = there.with_rule("rb", (), named).with_rule("ra", (), named)
        there = there.with_deed(Deed("b", ((), ()), "d")).with_deed(Deed("a", ((),), None, (("d", 0),)), 0)
        there = there.with_deed(Deed("s", ((("tell", named),),)))
        steps = (("y", "with_cell", "y", None), ("z", "with_cell", "z", None), ("t", "without_row", "t", 9),
                 ("t", "without_row", "t", 10), ("t", "without_row", "t", "z"), ("u", "without_row", "u", 3),
                 ("u", "without_row", "u", "k"), ("rb", "without_rule", "rb"), ("ra", "without_rule", "ra"),
                 ("a", "without_deed", "a"), ("b", "without_deed", "b"), ("s", "without_deed", "s"))
        for where, work, *args in steps:
            self.unready(where, "d", there.without_choice, "d")
            there = getattr(there, work)(*args)
        self.assertEqual(there.without_choice("d").choices.names, ("c",))

    def test_order_of_rows_of_a_table(self):
        """Two at once, as no single edit makes them."""
        there = day()
        for key, name in (("k", "n1"), (10, "n2"), (9, "n3"), (-1, "n4"), ("a", "n5")):
            there._rows = {**there._rows, ("t", key): ((1, 2), ((name, 0),))}
        told = [("t", name) for name in ("n4", "n3", "n2", "n5", "n1")]
        self.assertEqual(unready_things(there), told)

    def test_other_errors_come_first(self):
        wrong = ("call", "m")
        self.assertRaises(InvalidName, day().with_rule, "R", (), wrong)
        self.assertRaises(Taken, day().with_rule, "two", (), wrong)
        self.assertRaises(Taken, day().with_deed, Deed("first", ((("tell", wrong),),)))
        self.assertRaises(InvalidDeed, day().with_deed, Deed("e", ((("tell", wrong),), ())))
        self.assertRaises(UnknownName, day().with_row, "n", 1, (), only=(("n", 0),))
        self.assertRaises(UnknownName, day().with_cell, "x", (1,), choice="n")
        self.assertRaises(UnknownName, day().with_saying, "n", 0, (("tell", wrong),))

    def test_nothing_changes(self):
        there = day()
        self.unready("r", "m", there.with_rule, "r", (), ("call", "m"))
        self.unready("first", "m", there.with_saying, "first", 0, (("tell", ("call", "m")),))
        self.assertEqual(there, day())


if __name__ == "__main__":
    unittest.main()
