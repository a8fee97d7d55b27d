"""Shares ([33]), against the mean over all orders gone through one by one."""

import fractions
import itertools
import math
import random
import unittest

from hadnot.errors import NotNumber
from hadnot.ratios import Ratio
from hadnot.shares import shares
from hadnot.worths import Worth
from helpers import all_worlds, choices_of, random_table, worth_of


def shares_by_hand(worth, start, end):
    """The mean change over all orders; "no" where a value is of another kind."""
    names = [name for name in worth.choices.names if start[name] != end[name]]
    between = [worth({**start, **dict(zip(names, row))})
               for row in itertools.product(*[(start[name], end[name]) for name in names])]
    if {type(value) for value in between} not in ({int}, {bool}):
        return "no"
    totals = {name: 0 for name in names}
    for order in itertools.permutations(names):
        world = dict(start)
        for name in order:
            before = int(worth(world))
            world[name] = end[name]
            totals[name] += int(worth(world)) - before
    many = math.factorial(len(names))
    means = {name: fractions.Fraction(total, many) for name, total in totals.items()}
    return {name: Ratio(mean.numerator, mean.denominator) for name, mean in means.items()}


def told(worth, start, end):
    try:
        return shares(worth, start, end)
    except NotNumber:
        return "no"


class SharesTest(unittest.TestCase):
    def test_all_orders(self):
        rows = random.Random(3)
        seen = {"no": 0, "told": 0}
        for at in range(300):
            names = rows.sample(["d", "a", "c", "b", "e"], rows.randrange(0, 6))
            choices = choices_of(**{name: rows.choice((2, 2, 3)) for name in names})
            values = rows.choice(((True, False), (0, 1, 2, -7), tuple(range(50)), (10 ** 18 - 1, 1 - 10 ** 18),
                                  (5, 5, 5, 5, 5, 5, True), (1, 2, 3, 4, 5, 6, None), (1, 2, 3, 4, 5, 6, "w")))
            worth = worth_of(choices, random_table(choices, values, at))
            worlds = all_worlds(choices)
            start, end = rows.choice(worlds), rows.choice(worlds)
            wanted = shares_by_hand(worth, start, end)
            self.assertEqual(told(worth, start, end), wanted)
            seen["no" if wanted == "no" else "told"] += 1
            if wanted != "no":
                total = Ratio(int(worth(start)))
                for share in wanted.values():
                    total = total + share
                self.assertEqual(total, Ratio(int(worth(end))))
        self.assertGreater(min(seen.values()), 30)

    def test_simple(self):
        choices = choices_of(tip=2, buy=2, other=2)
        worth = worth_of(choices, lambda world: {(0, 0): 10, (1, 0): 6, (0, 1): 4, (1, 1): 6}[world["tip"], world["buy"]])
        self.assertEqual(shares(worth, {}, {"tip": 1, "buy": 1}), {"tip": Ratio(-1), "buy": Ratio(-3)})
        self.assertEqual(shares(worth, {}, {"tip": 1, "other": 1}), {"tip": Ratio(-4), "other": Ratio(0)})
        self.assertEqual(shares(worth=worth, start={"tip": 1}, end={}), {"tip": Ratio(4)})
        truth = worth.below(Worth(choices, 7))
        self.assertEqual(shares(truth, {}, {"tip": 1, "buy": 1}), {"tip": Ratio(1, 2), "buy": Ratio(1, 2)})

    def test_worlds_that_do_not_differ(self):
        choices = choices_of(a=2, b=3)
        for value in (0, 5, True, False):
            self.assertEqual(shares(Worth(choices, value), {"b": 2}, {"b": 2, "a": 0}), {})
        for value in (None, "w"):
            with self.assertRaises(NotNumber):
                shares(Worth(choices, value), {}, {})
        self.assertEqual(shares(Worth.by(choices, "a", (1, None)), {}, {"a": 0}), {})
        with self.assertRaises(NotNumber):
            shares(Worth.by(choices, "a", (1, None)), {"a": 1}, {"a": 1})
        self.assertEqual(shares(Worth(choices_of(), 4), {}, {}), {})

    def test_not_numbers(self):
        choices = choices_of(a=2, b=2, c=3)
        ends = ({}, {"a": 1, "b": 1})
        for value in (None, "w", True):
            worth = worth_of(choices, lambda world: value if (world["a"], world["b"]) == (1, 0) else 3)
            with self.assertRaises(NotNumber):
                shares(worth, *ends)
            self.assertEqual(shares(worth, {}, {"b": 1}), {"b": Ratio(0)})
        worth = worth_of(choices, lambda world: 3 if (world["a"], world["b"]) == (1, 0) else False)
        with self.assertRaises(NotNumber):
            shares(worth, *ends)
        # What stands beside the worlds between does not count.
        worth = worth_of(choices, lambda world: "w" if world["c"] == 1 else world["a"])
        self.assertEqual(shares(worth, {}, {"a": 1, "c": 2}), {"a": Ratio(1), "c": Ratio(0)})
        with self.assertRaises(NotNumber):
            shares(worth, {}, {"a": 1, "c": 1})
        with self.assertRaises(NotNumber):
            shares(worth, {"c": 1}, {"c": 1})

    def test_twenty_choices(self):
        choices = choices_of(**{f"c{at}": 2 + at % 3 for at in range(40)})
        total = Worth(choices, 0)
        for at, name in enumerate(choices.names):
            if at % 2:
                total = total + Worth.by(choices, name, [at % 5 * option for option in range(choices[name])])
        end = {name: 1 for name in choices.names if int(name[1:]) % 2}
        self.assertEqual(shares(total, {}, end), {name: Ratio(int(name[1:]) % 5) for name in end})
        count = Worth(choices, 0)
        for name in end:
            count = count + Worth.by(choices, name, [int(option == 1) for option in range(choices[name])])
        for least in (1, 7, 20):
            reached = Worth(choices, least - 1).below(count)
            self.assertEqual(shares(reached, {}, end), {name: Ratio(1, 20) for name in end})
        both = reached_by(choices, ("c1", "c3", "c5"))
        self.assertEqual(shares(both, {}, end), {
            name: Ratio(1, 3) if name in ("c1", "c3", "c5") else Ratio(0) for name in end})

    def test_long_numbers(self):
        choices = choices_of(a=2, b=2)
        worth = Worth.by(choices, "a", (0, 10 ** 300)) * Worth.by(choices, "b", (1, 10 ** 300))
        self.assertEqual(shares(worth, {}, {"a": 1, "b": 1}), {
            "a": Ratio(10 ** 600 + 10 ** 300, 2), "b": Ratio(10 ** 600 - 10 ** 300, 2)})


def reached_by(choices, names):
    worth = Worth(choices, True)
    for name in names:
        worth = worth & Worth.by(choices, name, [option == 1 for option in range(choices[name])])
    return worth


if __name__ == "__main__":
    unittest.main()
