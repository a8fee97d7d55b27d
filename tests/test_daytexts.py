"""Texts of days ([24])."""

import unittest

from hadnot.days import Day, Deed
from hadnot.daytexts import read_day, show_day
from hadnot.errors import InvalidDeed, InvalidText, Taken, UnknownName, Unready
from helpers import told_of

FULL = """table t p q
table u a b c d
choice b 2 0 1 1
choice a 4 3 0 5 1000000000 7
cell x -12
cell y by b 'w none
cell z 'abc
row t -5 1 'k
row t 3 'a 'b with a 3 with b 0
row t 'k 0 0
row u 0 1 2 3 4 with b 1
rule f 0 5
rule g 2 v w + $v call f 0
deed one by b with a 2
put x + @x 1
or
if chosen one.0 1
tell 1
else
each r t
tell $r
end
end
close
deed two
close
deed three with b 0 with a 1
need done one
close
deed four by a
or
or
drop x
or
close"""


def full_day():
    day = Day().with_choice("b", 2).with_choice("a", 4, prices=(0, 5, 10 ** 9, 7)).stands("a", 3)
    day = day.with_table("u", ("a", "b", "c", "d")).with_table("t", ("p", "q"))
    day = day.with_cell("z", "abc").with_cell("x", -12).with_cell("y", ("w", None), choice="b")
    day = day.with_row("u", 0, (1, 2, 3, 4), only=(("b", 1),)).with_row("t", "k", (0, 0))
    day = day.with_row("t", 3, ("a", "b"), only=(("a", 3), ("b", 0))).with_row("t", -5, (1, "k"))
    day = day.with_rule("f", (), 5).with_rule("g", ("v", "w"), ("+", ("my", "v"), ("call", "f")))
    loop = ("each", "r", "t", (("tell", ("my", "r")),))
    day = day.with_deed(Deed("one", [[("put", "x", ("+", "x", 1))], [("if", ("has", "x"), [("tell", 1)], [loop])]], "b",
                             only=[("a", 2)]))
    day = day.with_deed(Deed("two", [[]])).with_deed(Deed("three", [[("need", ("done", "one"))]], only=[("b", 0), ("a", 1)]))
    return day.with_deed(Deed("four", [[], [], [("drop", "x")], []], "a"))


def text_of(*lines):
    return "\n".join(lines)


class ShowTest(unittest.TestCase):
    def test_full(self):
        self.assertEqual(show_day(full_day()), FULL.replace("if chosen one.0 1", "if has x"))

    def test_empty(self):
        self.assertEqual((show_day(Day()), read_day("")), ("", Day()))

    def test_both_ways(self):
        days = [full_day(), Day(), Day().with_cell("a", 0), Day().with_choice("c", 3), Day().with_table("t", ("p",)),
                Day().with_deed(Deed("d", [[]])), Day().with_rule("f", (), ("word", "f")),
                Day().with_choice("c", 2, prices=(3, 0)).with_cell("a", (None, None), choice="c"),
                Day().with_table("t", ("p",)).with_row("t", "by", ("with",)).with_row("t", "with", ("none",))]
        for day in days:
            text = show_day(day)
            again = read_day(text=text)
            self.assertEqual(again, day)
            self.assertEqual(told_of(again), told_of(day))
            self.assertEqual(show_day(day=again), text)

    def test_a_read_day_is_whole(self):
        day = read_day("cell x 1")
        with self.assertRaises(Unready):
            day.with_deed(Deed("d", [[("delete", "t", 1)]]))
        with self.assertRaises(Unready):
            day.with_rule("f", (), ("chosen", "c", 0)).with_cell("y", 1)
        self.assertEqual(day.with_cell("x", None), Day())


class ReadTest(unittest.TestCase):
    def wrong(self, text, row):
        with self.assertRaises(InvalidText) as caught:
            read_day(text)
        self.assertEqual(caught.exception.row, row, text)

    def test_orders_within_a_kind(self):
        day = read_day(text_of("table u a", "table t p", "choice b 2 1 1 1", "choice a 2 0 1 1", "cell y 1", "cell x 2",
                               "row u 1 1", "row t 2 2", "row t 1 1", "rule g 0 1", "rule f 0 1", "deed b", "close",
                               "deed a", "close"))
        self.assertEqual((day.choices.names, day.names, [rule[0] for rule in day.rules]),
                         (("b", "a"), ("b", "a"), ["g", "f"]))
        self.assertEqual(day.all_rows, {("u", 1): ((1,), ()), ("t", 2): ((2,), ()), ("t", 1): ((1,), ())})
        self.assertEqual(day.standing, {"b": 1, "a": 0})

    def test_the_later_line_counts(self):
        day = read_day(text_of("table t p", "choice c 2 0 1 1", "cell x 1", "cell y by c 1 2", "cell x by c none 5",
                               "cell y 'w", "row t 1 1", "row t 2 0", "row t 1 2 with c 1"))
        self.assertEqual(day.all_cells, {"x": ("c", (None, 5)), "y": "w"})
        self.assertEqual(day.all_rows, {("t", 1): ((2,), (("c", 1),)), ("t", 2): ((0,), ())})
        # What a later line replaced is not asked for Unready.
        read_day(text_of("table t p", "choice c 2 0 1 1", "cell x by c 1 2 3", "cell x 1", "row t 1 1 2 with d 0", "row t 1 1"))
        with self.assertRaises(Unready):
            read_day(text_of("table t p", "choice c 2 0 1 1", "cell x 1", "cell x by c 1 2 3"))

    def test_kinds_in_the_wrong_place(self):
        lines = {"table": ["table t p"], "choice": ["choice c 2 0 1 1"], "cell": ["cell x 1"], "row": ["row t 1 2"],
                 "rule": ["rule f 0 1"], "deed": ["deed d", "close"]}
        kinds = list(lines)
        for one in range(6):
            for other in range(6):
                head = ["table t p"] if kinds[one] == "row" and other >= one else []
                text = text_of(*head, *lines[kinds[one]], *lines[kinds[other]])
                if other < one:
                    self.wrong(text, len(head) + len(lines[kinds[one]]))
                elif kinds[one] == kinds[other] and kinds[one] in ("table", "choice", "rule", "deed"):
                    with self.assertRaises(Taken):
                        read_day(text)
                elif "row" in (kinds[one], kinds[other]) and one > 0:
                    if one == 3:
                        read_day(text)
                    else:
                        with self.assertRaises(UnknownName):
                            read_day(text)
                else:
                    read_day(text)

    def test_wrong_lines(self):
        head = ["table t p q", "choice c 3 0 1 1 1", "cell x 1"]
        wrong = [
                "", " ", "table", "table t", "table t p p", "table t a b c d e", "table T p", "table t P", "table t 1",
                "table toolong p", "table t p ", "table  t p", " table t p", "tables t p", "choice", "choice c",
                "choice c 2", "choice c 2 0", "choice c 2 0 1", "choice c 2 0 1 1 1", "choice c 1 0 1", "choice c 0 0",
                "choice c 5 0 1 1 1 1 1", "choice c 2 2 1 1", "choice c 2 -1 1 1", "choice c 2 0 1 -1", "choice c 2 0 01 1",
                "choice c 2 0 1 1000000001", "choice c 2 0 1 'w", "choice c.0 2 0 1 1", "choice C 2 0 1 1",
                "choice c 02 0 1 1", "cell", "cell x", "cell x none", "cell x 'W", "cell x w", "cell x 01", "cell x -0",
                "cell x 1 2", "cell X 1", "cell x 1000000000000000000", "cell x by", "cell x by c", "cell x by c 1",
                "cell x by c.1 1 2", "cell x by c 1 2 3 4 5", "cell x by c 1 nil", "cell x by c 1 true", "cell x true",
                "cell c.0 1", "row", "row t", "row t 1", "row t none 1", "row t 1 none", "row t 1 1 2 3 4 5",
                "row t 1 2 with", "row t 1 2 with c", "row t 1 2 with c 4", "row t 1 2 with c -1", "row t 1 2 with c.0 0",
                "row t 1 2 with c 0 3", "row t 1 2 by c 0", "row t 1 with c 0", "row t k 1", "row t '1 1",
                "row t 1 2 with c 0 with", "rule", "rule f", "rule f 0", "rule f 1 $v", "rule f 1 v", "rule f 0 1 2",
                "rule f 10 a b c d e f g h i j 1", "rule f 1 V 1", "rule F 0 1", "rule f 0 x", "rule f -0 1", "rule f.0 0 1",
                "rule f 2 v $v", "deed", "deed D", "deed d by", "deed d by c.0", "deed d with", "deed d with c",
                "deed d with c 4", "deed d with c 0 by c", "deed d by c by d", "deed d c", "deed d.0", "or", "close", "end",
                "else", "put x 1", "day"]
        for line in wrong:
            if line != "":
                self.wrong(line, 0)
            if not line.startswith(("table", "choice")):
                self.wrong(text_of(*head, line), 3)
                self.wrong(text_of(*head, line, "close"), 3)
            self.wrong(text_of(line, "nonsense"), 0)

    def test_good_lines(self):
        head = ["table t p q", "choice c 3 0 1 1 1"]
        day = read_day(text_of("choice c 4 3 1 1 1 1", "choice d 2 1 1 1", "cell x by c 1 2 3 4", "cell y by d 1 2"))
        self.assertEqual(day.all_cells, {"x": ("c", (1, 2, 3, 4)), "y": ("d", (1, 2))})
        for line in ("cell x 0", "cell x 'none", "cell by by c 'by none -1", "cell x 999999999999999999", "row t 'by 0 'with",
                     "row t 0 1 2 with c 2 with c 0", "rule f 9 a b c d e f g h i $a", "rule f 0 count v t chosen c 2"):
            self.assertEqual(show_day(read_day(text_of(*head, line))).split("\n")[2], line)
        with self.assertRaises(Unready):
            read_day(text_of(*head, "cell x by c 1 2"))
        with self.assertRaises(Unready):
            read_day(text_of(*head, "row t 1 1"))
        day = read_day("choice c 2 0 0 1000000000")
        self.assertEqual(day.prices, {"c": (0, 10 ** 9)})

    def test_deeds(self):
        self.wrong(text_of("deed d"), 1)
        self.wrong(text_of("deed d", "tell 1"), 2)
        self.wrong(text_of("deed d", "close", ""), 2)
        self.wrong(text_of("deed d", "", "close"), 1)
        self.wrong(text_of("deed d", "close", "close"), 2)
        self.wrong(text_of("deed d", "or", "close"), 1)
        self.wrong(text_of("deed d", "tell 1", "or", "close"), 2)
        self.wrong(text_of("deed d", "end", "close"), 1)
        self.wrong(text_of("deed d", "else", "close"), 1)
        self.wrong(text_of("deed d", "deed e", "close"), 1)
        self.wrong(text_of("deed d", "cell x 1", "close"), 1)
        self.wrong(text_of("deed d", "each r t", "close"), 2)
        self.wrong(text_of("deed d", "if has x", "else", "close"), 3)
        self.wrong(text_of("deed d", "if has x", "else", "else", "end", "close"), 3)
        self.wrong(text_of("deed d", "each r t", "else", "end", "close"), 2)
        self.wrong(text_of("deed d", "if has x", "tell 1"), 3)
        self.wrong(text_of("deed d", "tell 1 ", "close"), 1)
        self.wrong(text_of("deed d", "close ", "close"), 1)
        self.wrong(text_of("deed d", "put x", "close"), 1)
        self.wrong(text_of("deed d", "close", "tell 1"), 2)
        self.wrong(text_of("choice c 2 0 1 1", "deed d by c", "or", "if has x", "or", "close"), 4)
        self.wrong(text_of("choice c 2 0 1 1", "deed d by c", "tell 1", "or"), 4)
        day = read_day(text_of("deed d", "if has x", "else", "end", "close"))
        self.assertEqual(day["d"].sayings, ((("if", ("has", "x"), (), ()),),))
        day = read_day(text_of("choice c 2 0 1 1", "deed d by c with c 1", "tell 1", "or", "close", "deed e", "tell done d", "close"))
        self.assertEqual(day.deeds, (Deed("d", [[("tell", 1)], []], "c", [("c", 1)]), Deed("e", [[("tell", ("done", "d"))]])))

    def test_errors_of_the_methods(self):
        head = ["table t p", "choice c 2 0 1 1"]
        cases = [
            (Taken, "t", [*head[:1], "table t q"]), (Taken, "c", [*head, "choice c 3 0 1 1 1"]),
            (UnknownName, "d", [*head, "cell x by d 1 2"]), (UnknownName, "u", [*head, "row u 1 1"]),
            (Taken, "f", [*head, "rule f 0 1", "rule f 1 v 2"]), (Taken, "v", [*head, "rule f 3 u v v 1"]),
            (Taken, "e", [*head, "deed e", "close", "deed e by c", "or", "close"]),
            (InvalidDeed, "e", [*head, "deed e by c", "close"]), (InvalidDeed, "e", [*head, "deed e by c", "or", "or", "close"]),
            (InvalidDeed, "e", [*head, "deed e by c", "or", "or", "or", "or", "close"])]
        for error, name, lines in cases:
            with self.assertRaises(error) as caught:
                read_day(text_of(*lines))
            self.assertEqual(caught.exception.name, name)
            # A line that is of no form comes first, wherever it stands, and Unready last.
            self.wrong(text_of(*lines, ""), len(lines))
            with self.assertRaises(error) as caught:
                read_day(text_of(*lines, "deed zz", "tell done no", "close"))
            self.assertEqual(caught.exception.name, name)

    def test_two_errors(self):
        with self.assertRaises(UnknownName) as caught:
            read_day(text_of("cell x by d 1 2", "row u 1 1", "rule f 2 v v 1"))
        self.assertEqual(caught.exception.name, "d")
        with self.assertRaises(Taken) as caught:
            read_day(text_of("table t p", "table t q", "row u 1 1"))
        self.assertEqual(caught.exception.name, "t")
        with self.assertRaises(Taken) as caught:
            read_day(text_of("rule f 0 1", "rule f 2 v v 1"))
        self.assertEqual(caught.exception.name, "f")

    def test_unready(self):
        head = ["table t p", "choice c 2 0 1 1"]
        cases = [
            ("x", "c", [*head, "cell x by c 1 2 3"]), ("t", "t", [*head, "row t 1 1 2"]), ("t", "d", [*head, "row t 1 1 with d 0"]),
            ("t", "c", [*head, "row t 1 1 with c 3"]), ("f", "g", [*head, "rule f 0 call g 0", "rule g 0 1"]),
            ("f", "d", [*head, "rule f 0 done d", "deed d", "close"]), ("d", "e", [*head, "deed d", "tell done e", "close", "deed e", "close"]),
            ("d", "k", [*head, "deed d by k", "or", "or", "or", "or", "close"]), ("d", "d.0", [*head, "deed d", "tell chosen d.0 1", "close"]),
            ("d", "k", [*head, "deed d with k 0", "close"]), ("d", "q", [*head, "deed d", "change t 1 q 1", "close"])]
        for where, name, lines in cases:
            with self.assertRaises(Unready) as caught:
                read_day(text_of(*lines))
            self.assertEqual((caught.exception.where, caught.exception.name), (where, name), lines)
        with self.assertRaises(Unready) as caught:
            read_day(text_of(*head, "cell x by c 1 2 3", "row t 1 1 2", "deed d", "tell done d", "close"))
        self.assertEqual(caught.exception.where, "x")

    def test_deep_texts(self):
        deep = " ".join(["not"] * 40 + ["has", "x"])
        text = text_of(f"rule f 0 {deep}", "deed d", *["if has x"] * 40, *["end"] * 40, "close")
        self.assertEqual(show_day(read_day(text)), text)
        self.wrong(text_of("rule f 0 " + "not " * 40), 0)
        self.wrong(text_of("deed d", *["if has x"] * 40, *["end"] * 39, "close"), 80)


if __name__ == "__main__":
    unittest.main()
