"""Where days and questions are too wide ([28], [30])."""

import unittest
from unittest import mock

from hadnot.days import Day, Deed
from hadnot.errors import TooWide
from hadnot.lifts import Lift
from hadnot.worths import Worth
from random_days import Maker
from wide import Wide, WideAsk, beginning

YES = ("not", ("has", "nowhere"))
NO = ("has", "nowhere")


def limits(nodes, keys=16):
    """Other bounds than 300 nodes and 16 keys, so that small days reach them."""
    return mock.patch.multiple("hadnot.pools", MOST_NODES=nodes), mock.patch.multiple("hadnot.liftscenes", MOST_KEYS=keys)


def place_of(day):
    try:
        Lift(day)
    except TooWide as error:
        return error.deed, error.row
    return None


class AgainstTracesTest(unittest.TestCase):
    """Small days, with small bounds, against the traces of all their worlds."""

    def test_nodes(self):
        places = set()
        for seed in range(60):
            day = Maker(seed).day(4 + seed % 3, 2)
            for most in (6, 9, 13, 18, 25):
                with limits(most)[0]:
                    got = place_of(day)
                self.assertEqual(got, Wide(day, most).place(), (seed, most))
                places.add(got)
        self.assertGreater(len(places), 15)

    def test_keys(self):
        seen = 0
        for seed in range(200):
            day = Maker(seed).day(3, 3)
            for most in (2, 3):
                with limits(300, most)[1]:
                    got = place_of(day)
                self.assertEqual(got, Wide(day, 300, most).place(), (seed, most))
                seen += got is not None
        self.assertGreater(seen, 40)

    def test_questions(self):
        wide = 0
        for seed in range(12):
            maker = Maker(seed)
            day = maker.day(5, 2)
            lift = Lift(day)
            model = Wide(day, 1000)
            books, done = [beginning(day, world) for world in model.worlds], [{} for _ in model.worlds]
            for deed in day.deeds:
                books = model.deed(deed, books, done)
            for asked, method in ((maker.number(4), "ask"), (maker.truth(4), "ask"), *[(maker.question(), "answer")] * 2):
                # Nodes that were made under a lesser bound would be weighed by it.
                for most in (24, 17, 12, 9, 7, 5, 4, 3):
                    with limits(most)[0]:
                        try:
                            getattr(lift, method)(asked)
                            got = False
                        except TooWide as error:
                            self.assertEqual((error.deed, error.row), ("", 0))
                            got = True
                    ask = WideAsk(day, most, books, done)
                    self.assertEqual(got, ask.is_wide(getattr(ask, method), asked), (seed, asked, most))
                    wide += got
        self.assertGreater(wide, 40)


def total_of(names):
    """The sum of expressions, nested as little as may be."""
    if len(names) == 1:
        return names[0]
    half = len(names) // 2
    return ("+", total_of(names[:half]), total_of(names[half:]))


# How many of the first 23 choices have option 1: that has 300 nodes.
TOTAL = total_of([f"k{at}" for at in range(23)])
# 0 and 1 are told apart by one more choice: with the total that makes 301 nodes.
MORE = ("when", ("and", ("=", "n", 0), ("chosen", "z", 1)), 1, 0)
# The greatest number is 0, too: with the total that makes 299 nodes.
LESS = ("when", ("=", "n", 23), -23, 0)


def base():
    """Behind the deed count the cell n has 300 nodes."""
    day = Day().with_table("t", ("a",))
    for at in range(24):
        day = day.with_choice(f"c{at}", 2).with_cell(f"k{at}", (0, 1), choice=f"c{at}")
    day = day.with_choice("z", 2)
    return day.with_deed(Deed("count", [[("put", "n", TOTAL)]]))


class NodesTest(unittest.TestCase):
    def place(self, *rows, day=None):
        return place_of((base() if day is None else day).with_deed(Deed("go", [rows])))

    def test_base(self):
        lift = Lift(base())
        self.assertEqual(len(lift["n"]), 300)
        self.assertEqual([len(lift.ask(("+", "n", part))) for part in (LESS, 0)], [299, 300])
        self.assertEqual(len(lift["n"] + lift.ask(MORE)), 301)
        with self.assertRaises(TooWide) as caught:
            lift.ask(("+", "n", MORE))
        self.assertEqual((caught.exception.deed, caught.exception.row), ("", 0))

    def test_cells(self):
        self.assertIsNone(self.place(("put", "m", ("+", "n", LESS))))
        self.assertIsNone(self.place(("put", "m", "n")))
        self.assertEqual(self.place(("tell", 1), ("put", "m", ("+", "n", MORE))), ("go", 1))
        # The expression has few nodes, the cell gets more.
        late = ("if", ("=", MORE, 1), [("tell", 1), ("put", "n", 1)], [])
        self.assertEqual(self.place(("tell", 1), late), ("go", 3))
        low = ("if", ("=", "n", 23), [("put", "n", 0)], [])
        self.assertIsNone(self.place(low))
        self.assertIsNone(self.place(low, late))
        self.assertEqual(len(Lift(base().with_deed(Deed("go", [[low, late]])))["n"]), 300)

    def test_a_local_that_is_never_used(self):
        self.assertIsNone(self.place(("let", "v", "n"), ("let", "w", ("+", "n", LESS))))
        rows = [("let", "v", "n"), ("if", ("=", MORE, 1), [("let", "v", 1)], [])]
        self.assertEqual(self.place(*rows), ("go", 2))
        self.assertEqual(self.place(("each", "r", "t", ()), *rows), ("go", 3))
        # Where the saying has stopped at this very row the local has no value any more.
        stop = ("when", ("chosen", "z", 1), "nix", 0)
        self.assertIsNone(self.place(("let", "v", "n"), ("let", "v", stop)))
        self.assertEqual(self.place(("let", "v", "n"), ("if", ("chosen", "z", 1), [], [("let", "v", 0)])), ("go", 2))
        # Where a world does not take a turn, and behind the loop.
        day = base().with_row("t", 1, (0,), only=[("z", 0)])
        for name, row in (("r", None), ("v", 3)):
            turn = ("each", "r", "t", [("let", name, 0), ("tell", 1)])
            wanted = None if row is None else ("go", 2)
            self.assertEqual(self.place(("let", name, "n"), turn, day=day), wanted)
        # Each saying has its own locals.
        day = base().with_deed(Deed("go", [[("let", "v", "n")], [("if", ("=", MORE, 1), [("let", "v", 1)], [])]], "c0"))
        self.assertIsNone(place_of(day))

    def test_expressions_in_others(self):
        for form in (("<", 99, ("+", "n", MORE)), ("and", NO, ("<", 99, ("+", "n", MORE))), ("*", 0, ("+", "n", MORE)),
                     ("stands", "t", ("+", "n", MORE)), ("not", ("=", 99, ("+", "n", MORE))),
                     ("when", YES, 1, ("+", "n", MORE)), ("when", YES, ("*", 0, ("+", "n", MORE)), 1)):
            wide = form[1] is not NO and form[:2] != ("when", YES) or form[-1] == 1
            self.assertEqual(self.place(("tell", 0), ("tell", form)), ("go", 1) if wide else None, form)
        self.assertEqual(self.place(("if", ("<", 99, ("+", "n", MORE)), [], [])), ("go", 0))
        self.assertEqual(self.place(("need", ("<", ("+", "n", MORE), 99))), ("go", 0))
        self.assertIsNone(self.place(("need", ("<", ("+", "n", LESS), 99)), ("need", ("<", "n", 99))))

    def test_where_expressions_are_evaluated(self):
        """Only where the ones ahead have no fault."""
        late = ("when", ("chosen", "z", 1), ("+", "n", ("+", "n", MORE)), 0)
        stop = ("when", ("chosen", "z", 1), "nix", 0)
        for row in (("insert", "t", stop, (late,)), ("insert", "u", 0, (stop, late)), ("change", "t", stop, "a", late),
                    ("tell", ("+", stop, late)), ("tell", ("call", "f", stop, late))):
            day = base().with_table("u", ("a", "b")).with_rule("f", ("v", "w"), 1)
            self.assertIsNone(self.place(row, day=day))
        day = base().with_rule("f", ("v",), late)
        self.assertIsNone(self.place(("tell", ("call", "f", stop)), day=day))
        self.assertEqual(self.place(("tell", ("call", "f", 0)), day=day), ("go", 0))
        self.assertEqual(self.place(("insert", "t", 0, (late,))), ("go", 0))

    def test_bodies_of_rules(self):
        day = base().with_rule("f", ("v",), ("<", ("+", "n", ("my", "v")), 99))
        self.assertEqual(self.place(("tell", ("call", "f", 0)), ("tell", ("call", "f", MORE)), day=day), ("go", 1))
        self.assertIsNone(self.place(("tell", ("call", "f", 0)), ("tell", ("call", "f", LESS)), day=day))
        self.assertIsNone(self.place(("if", NO, [("tell", ("call", "f", MORE))], []), day=day))

    def test_sums_so_far(self):
        def parts(middle):
            return ("when", ("=", ("my", "r"), 1), "n", ("when", ("=", ("my", "r"), 2), middle, ("-", 0, "n")))

        day = base()
        for key in (1, 2, 3):
            day = day.with_row("t", key, (0,))
        self.assertIsNone(self.place(("tell", ("sum", "r", "t", YES, parts(0))), day=day))
        self.assertIsNone(self.place(("tell", ("sum", "r", "t", YES, parts(LESS))), day=day))
        self.assertEqual(self.place(("tell", ("sum", "r", "t", YES, parts(MORE))), day=day), ("go", 0))
        # A sum by which a group is told has the same bound.
        lift = Lift(day)
        lift.answer(("groups", "r", "t", YES, 0, "sum", parts(LESS)))
        for question in (("groups", "r", "t", YES, 0, "sum", parts(MORE)), ("rows", (("r", "t"),), ("<", 99, ("+", "n", MORE)), ()),
                         ("rows", (("r", "t"),), YES, (1, ("+", "n", MORE)))):
            with self.assertRaises(TooWide) as caught:
                lift.answer(question)
            self.assertEqual((caught.exception.deed, caught.exception.row), ("", 0))
        # The total of 24 choices at the last of 16 rows.
        wide = total_of([f"k{at}" for at in range(24)])
        self.assertEqual(self.place(("tell", ("count", "r", "t", ("<", 99, wide))), day=day), ("go", 0))

    def test_worlds_in_which_a_row_is_come_to(self):
        even = ("<", 5, total_of([f"k{at}" for at in range(0, 24, 2)]))
        odd = ("<", 5, total_of([f"k{at}" for at in range(1, 24, 2)]))
        self.assertIsNone(self.place(("if", even, [("put", "x", 1)], []), ("if", odd, [("put", "y", 1)], [])))
        # Both hold in worlds that take more nodes to tell.
        self.assertEqual(self.place(("if", even, [("put", "x", 1)], []), ("if", odd, [("if", ("has", "x"), [], [])], [])), ("go", 3))
        # Where x is there is looked at with "has" itself, where it is asked in all worlds it has few nodes.
        day = base().with_deed(Deed("x", [[("if", even, [("put", "x", 1)], [])]]))
        day = day.with_deed(Deed("y", [[("if", odd, [("put", "y", 1)], [])]]))
        self.assertEqual(place_of(day.with_deed(Deed("go", [[("tell", ("has", "x")), ("need", ("has", "y")), ("drop", "x")]]))), ("go", 2))
        self.assertIsNone(place_of(day.with_deed(Deed("go", [[("tell", ("has", "x")), ("need", ("has", "y"))]]))))
        # A row without expressions, in a loop over a row that stands in some worlds.
        day = day.with_table("u", ("a",)).with_deed(Deed("row", [[("if", ("has", "y"), [("insert", "t", 1, (0,))], [])]]))
        rows = [("need", ("has", "x")), ("each", "r", "t", [("each", "s", "u", [])])]
        self.assertEqual(place_of(day.with_deed(Deed("go", [rows]))), ("go", 2))
        # What has stopped the sayings, and the other way round.
        self.assertEqual(place_of(day.with_deed(Deed("go", [[("need", ("has", "y")), ("tell", 1), ("need", ("has", "x"))]]))), ("go", 2))

    def test_taken_back(self):
        """Behind the rows each worth has few nodes; where the deed is refused the old ones come back."""
        even = ("<", 5, total_of([f"k{at}" for at in range(0, 24, 2)]))
        odd = ("<", 5, total_of([f"k{at}" for at in range(1, 24, 2)]))
        day = base().with_deed(Deed("x", [[("if", even, [("put", "x", 1)], [("put", "x", 0)])]]))
        rows = [("put", "x", 2), ("if", YES, [("need", odd)], [("tell", 1), ("tell", 2)])]
        self.assertEqual(place_of(day.with_deed(Deed("go", [rows]))), ("go", 5))
        longer = [[("tell", 1)], rows]
        day = day.with_choice("y", 2)
        self.assertEqual(place_of(day.with_deed(Deed("go", longer, "y"))), ("go", 5))
        self.assertEqual(place_of(day.with_deed(Deed("go", [rows * 2, [("tell", 1)]], "y"))), ("go", 10))
        self.assertIsNone(place_of(day.with_deed(Deed("go", [[("put", "x", 2), ("need", YES)]]))))
        # A part of a row, and where a row stands.
        day = base().with_row("t", 1, (5,)).with_deed(Deed("x", [[("if", even, [("change", "t", 1, "a", 6)], [])]]))
        self.assertEqual(place_of(day.with_deed(Deed("go", [[("change", "t", 1, "a", 2), ("need", odd)]]))), ("go", 2))
        day = base().with_deed(Deed("x", [[("if", even, [("insert", "t", 1, (5,))], [])]]))
        gone = [("each", "r", "t", [("delete", "t", ("my", "r"))]), ("need", odd)]
        self.assertEqual(place_of(day.with_deed(Deed("go", [gone]))), ("go", 3))

    def test_first_row(self):
        """Of several rows the one that is come to first in the run, by ascending options."""
        wide = ("tell", ("+", "n", MORE))
        for sayings, row in (([[("tell", 0), wide], [wide]], 1), ([[("tell", 0), ("tell", 1)], [wide]], 0)):
            self.assertEqual(place_of(base().with_deed(Deed("go", sayings, "z"))), ("go", row))
        day = base().with_deed(Deed("go", [[("if", NO, [wide], [("tell", 1), ("if", YES, [wide], [wide])])]]))
        self.assertEqual(place_of(day), ("go", 4))
        day = base().with_row("t", 1, (0,)).with_deed(Deed("go", [[("each", "r", "t", [("tell", 0), ("each", "s", "t", [wide])])]]))
        self.assertEqual(place_of(day), ("go", 3))
        day = base().with_deed(Deed("go", [[("each", "r", "t", [wide]), ("tell", 1)]]))
        self.assertIsNone(place_of(day))
        self.assertIsNone(place_of(base().with_deed(Deed("go", [[wide]], only=[("z", 0), ("z", 1)]))))


class KeysTest(unittest.TestCase):
    def day(self, keys):
        day = Day().with_choice("a", 2).with_choice("b", 2).with_table("t", ("p",)).with_table("u", ("p",))
        for key in range(keys):
            day = day.with_row("t", key, (0,), only=[("a", key % 2)])
        return day

    def place(self, day, *rows):
        return place_of(day.with_deed(Deed("go", [rows])))

    def test_sixteen_keys(self):
        insert = ("insert", "t", 99, (0,))
        self.assertIsNone(self.place(self.day(15), ("tell", 1), insert))
        self.assertEqual(self.place(self.day(16), ("tell", 1), insert), ("go", 1))
        self.assertEqual(len(Lift(self.day(16)).keys_of("t")), 16)
        self.assertEqual(self.place(self.day(16), ("if", ("chosen", "b", 1), [insert], [])), ("go", 1))
        self.assertIsNone(self.place(self.day(16), ("delete", "t", ("when", ("chosen", "a", 0), 0, 1)), ("insert", "t", 99, (0,))))
        self.assertEqual(self.place(self.day(16), ("if", ("chosen", "a", 0), [("delete", "t", 0)], []), insert, insert), None)
        # Keys of another table do not count.
        self.assertIsNone(self.place(self.day(16), ("insert", "u", 99, (0,))))
        # Too many keys of the beginning are behind the first row, an if or a loop ahead of the rows in it.
        for first in (("if", YES, [("tell", 1)], []), ("each", "r", "t", [("tell", 1)]), ("put", "x", 1), ("tell", 1)):
            self.assertEqual(self.place(self.day(17), first, ("tell", 1)), ("go", 0))
        self.assertEqual(self.place(self.day(17), ("if", ("chosen", "a", 0), [("delete", "t", 0)], [])), ("go", 0))
        self.assertEqual(self.place(self.day(17)), ("go", 0))
        nowhere = Deed("go", [[("tell", 1), ("tell", 2)]], only=[("b", 0), ("b", 1)])
        self.assertEqual(place_of(self.day(17).with_deed(nowhere)), ("go", 2))
        # A row that stands in no world does not count.
        day = self.day(16).with_row("t", 50, (0,), only=[("a", 0), ("a", 1)])
        self.assertIsNone(self.place(day, ("tell", 1)))

    def test_many_keys_at_once(self):
        day = Day().with_table("t", ("p",))
        for at in range(5):
            day = day.with_choice(f"c{at}", 2).with_cell(f"k{at}", (0, 2 ** at), choice=f"c{at}")
        for many in (4, 5):
            key = total_of([f"k{at}" for at in range(many)])
            self.assertEqual(self.place(day, ("insert", "t", key, (0,))), None if many == 4 else ("go", 0))
        self.assertEqual(len(Lift(day.with_deed(Deed("go", [[("insert", "t", total_of(["k0", "k1", "k2", "k3"]), (0,))]]))).keys_of("t")), 16)

    def test_taken_back(self):
        """Keys that come back where the deed is refused."""
        rows = [("delete", "t", key) for key in range(8)] + [("insert", "t", 50 + key, (0,)) for key in range(9)]
        day = Day().with_choice("b", 2).with_table("t", ("p",))
        for key in range(8):
            day = day.with_row("t", key, (0,))
        self.assertIsNone(self.place(day, *rows))
        self.assertIsNone(self.place(day, *rows[:-1], ("need", ("chosen", "b", 0))))
        self.assertEqual(self.place(day, *rows, ("need", ("chosen", "b", 0))), ("go", 18))
        self.assertEqual(self.place(day, *rows, ("need", ("chosen", "b", 0)), ("tell", 1)), ("go", 19))


class LimitTest(unittest.TestCase):
    def test_forty_choices_and_deeds(self):
        """40 choices and 40 deeds; each cell depends on some of them."""
        day = Day().with_table("t", ("p",))
        for at in range(40):
            day = day.with_choice(f"c{at}", 2 + at % 3)
        for at in range(40):
            add = [("put", f"x{at % 3}", ("when", ("has", f"x{at % 3}"), ("+", f"x{at % 3}", 1), 1))]
            sayings = [add if option == 1 else [] for option in range(2 + at % 3)]
            day = day.with_deed(Deed(f"d{at}", sayings, f"c{at}"))
        lift = Lift(day)
        self.assertEqual([len(lift[f"x{at}"]) for at in range(3)], [120, 105, 105])
        self.assertIsInstance(lift["x0"], Worth)

    def test_many_rows(self):
        day = Day().with_cell("n", 0).with_table("t", ("p",))
        for key in range(16):
            day = day.with_row("t", key, (key,))
        rows = [("each", "r", "t", [("each", "s", "t", [("put", "n", ("+", "n", ("count", "q", "t", ("<", ("my", "q"), ("my", "r")))))])])]
        lift = Lift(day.with_deed(Deed("go", [rows])))
        self.assertEqual(str(lift["n"]), str(16 * 120))

    def test_deep_expressions(self):
        deep = "k0"
        for at in range(30):
            deep = ("+", deep, f"k{at % 3}")
        # 11 * k0 + 10 * (k1 + k2)
        self.assertEqual(len(Lift(base()).ask(deep)), 6 + 4 + 2 + 1)


if __name__ == "__main__":
    unittest.main()
