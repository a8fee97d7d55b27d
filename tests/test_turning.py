"""Turning sets and supports ([31], [32]), against all worlds gone through one by one."""

import itertools
import math
import random
import unittest
from unittest import mock

from hadnot.days import Day, Deed
from hadnot.errors import TooWide
from hadnot.lifts import Lift
from hadnot.supports import support
from hadnot.turning import count_turning, turning_sets
from hadnot.worths import Worth
from helpers import VALUES, choices_of, drawn, many_choices, place, random_worths, rows_of, same, worth_of


def turning_by_hand(worth, standing):
    rows = rows_of(worth, standing)
    answer = worth(standing)
    turned = [pairs for pairs, value in rows if not same(value, answer)]
    sets = [{name for name, _ in pairs} for pairs in turned]
    return [pairs for pairs, names in zip(turned, sets) if not any(other < names for other in sets)]


def support_by_hand(worth, standing, pair):
    answer = worth(standing)
    for pairs, value in rows_of(worth, standing):
        if pair[0] not in dict(pairs) and same(value, answer):
            if not same(worth({**standing, **dict(pairs), pair[0]: pair[1]}), answer):
                return pairs
    return None


def threshold(choices, least):
    """Whether at least so many choices have option 1; and the worth of their number."""
    total = Worth(choices, 0)
    for name in choices.names:
        total = total + Worth.by(choices, name, (0, 1))
    return ~total.below(Worth(choices, least)), total


class TurningTest(unittest.TestCase):
    def test_example(self):
        day = Day().with_cell("cash", 10).with_choice("tip", 2).with_choice("buy", 2)
        day = day.with_deed(Deed("pay", [[], [("put", "cash", ("-", "cash", 4))]], "tip"))
        day = day.with_deed(Deed("shop", [[], [("need", ("<", 6, "cash")), ("put", "cash", ("-", "cash", 6))]], "buy"))
        lift = Lift(day)
        low = lift.ask(("<", "cash", 7))
        self.assertEqual(list(turning_sets(low, day.standing)), [(("tip", 1),), (("buy", 1),)])
        self.assertEqual(count_turning(low, day.standing), 2)

    def test_all_worlds(self):
        for worth, standing in random_worths(250, 1):
            wanted = turning_by_hand(worth, standing)
            self.assertEqual(list(turning_sets(worth, standing)), wanted)
            self.assertEqual(count_turning(worth, standing), len(wanted))

    def test_other_options(self):
        """A lesser set of choices turns the answer, with whatever options."""
        choices = choices_of(a=3, b=2)
        table = {(0, 0): 0, (1, 0): 0, (2, 0): 1, (0, 1): 0, (1, 1): 1, (2, 1): 0}
        worth = worth_of(choices, lambda world: table[world["a"], world["b"]])
        self.assertEqual(list(turning_sets(worth, {})), [(("a", 2),)])
        self.assertEqual(list(turning_sets(worth, {"a": 2})), [(("a", 0),), (("a", 1),), (("b", 1),)])
        self.assertEqual(count_turning(worth, {"a": 1, "b": 1}), 3)

    def test_never(self):
        choices = choices_of(a=2, b=3)
        for value in VALUES:
            worth = Worth(choices, value)
            self.assertEqual((list(turning_sets(worth, {"b": 2})), count_turning(worth, {"b": 2})), ([], 0))
        self.assertEqual(list(turning_sets(Worth(choices_of(), 1), {})), [])
        # 1 and True are not the same.
        worth = Worth.by(choices, "a", (1, True))
        self.assertEqual(list(turning_sets(worth, {})), [(("a", 1),)])

    def test_order(self):
        choices = choices_of(b=3, a=3)
        worth = worth_of(choices, lambda world: (world["a"], world["b"]) not in ((0, 0), (1, 0), (2, 0)))
        self.assertEqual(list(turning_sets(worth, {"a": 1})), [(("b", 1),), (("b", 2),)])
        worth = worth_of(choices, lambda world: world["a"] != 1 and world["b"] != 1)
        self.assertEqual(list(turning_sets(worth, {"a": 1, "b": 1})), [
            (("b", 0), ("a", 0)), (("b", 0), ("a", 2)), (("b", 2), ("a", 0)), (("b", 2), ("a", 2))])
        worth = worth_of(choices, lambda world: world["a"] == 1 or world["b"] == 1)
        self.assertEqual(list(turning_sets(worth, {})), [(("b", 1),), (("a", 1),)])

    def test_large_counts(self):
        choices = many_choices(40)
        worth, total = threshold(choices, 8)
        self.assertEqual(count_turning(worth, {}), math.comb(40, 8))
        self.assertEqual(count_turning(total, {}), 40)
        first = tuple((f"c{at}", 1) for at in range(8))
        rows = list(itertools.islice(turning_sets(worth, {}), 3))
        self.assertEqual(rows, [first, (*first[:7], ("c8", 1)), (*first[:7], ("c9", 1))])
        all_one = {name: 1 for name in choices.names}
        self.assertEqual(count_turning(worth, all_one), math.comb(40, 33))
        self.assertEqual(count_turning(worth, {"c3": 1, "c5": 1}), math.comb(38, 6))
        self.assertEqual(next(iter(turning_sets(worth, all_one))), tuple((f"c{at}", 0) for at in range(33)))

    def test_orders_of_large_ones(self):
        choices = many_choices(24)
        total = Worth(choices, 0)
        for at, name in enumerate(choices.names):
            total = total + Worth.by(choices, name, (0, at % 3 + 1))
        worth = Worth(choices, 8).below(total)
        rows = list(turning_sets(worth, {}))
        self.assertEqual(len(rows), count_turning(worth, {}))
        self.assertEqual(rows, sorted(rows, key=lambda pairs: place(choices, pairs)))
        self.assertEqual(len(set(rows)), len(rows))
        for pairs in rows[::97]:
            weights = [int(name[1:]) % 3 + 1 for name, _ in pairs]
            self.assertTrue(sum(weights) > 8 >= sum(weights) - min(weights))

    def test_too_wide(self):
        """What is reached by at least k of n choices has k * (n - k + 1) + 2 nodes."""
        most, _ = threshold(many_choices(37).put("z", 2), 11)
        most = most | Worth.by(most.choices, "z", (False, True))
        self.assertEqual(len(most), 300)
        self.assertEqual(count_turning(most, {}), math.comb(37, 11) + 1)
        self.assertEqual(next(iter(turning_sets(most, {}))), (("z", 1),))
        wide, _ = threshold(many_choices(35), 13)
        self.assertEqual(len(wide), 301)
        with self.assertRaises(TooWide) as caught:
            count_turning(wide, {})
        self.assertEqual((caught.exception.deed, caught.exception.row), ("", 0))
        rows = turning_sets(wide, {})
        with self.assertRaises(TooWide) as caught:
            next(rows)
        self.assertEqual((caught.exception.deed, caught.exception.row), ("", 0))
        # A wide worth of which few choices are enough, and a narrow one of which all are reached from afar.
        worth, total = threshold(many_choices(38), 8)
        self.assertEqual((len(total), count_turning(total, {})), (38 * 39 // 2 + 39, 38))
        parity = Worth(worth.choices, False)
        for name in worth.choices.names[:12]:
            parity = parity.same(Worth.by(worth.choices, name, (True, False)))
        self.assertEqual(count_turning(parity, {}), 12)

    def test_small_bounds(self):
        """The nodes of what is reached count, those of the worth and of the turning sets do not."""
        seen = {True: 0, False: 0}
        for worth, standing in random_worths(200, 4):
            turned = [{name for name, _ in pairs} for pairs, value in rows_of(worth, standing) if not same(value, worth(standing))]

            def reached(world):
                differing = {name for name in world if world[name] != standing[name]}
                return any(names <= differing for names in turned)

            many = len(drawn(worth.choices, reached))
            for most in range(1, 16):
                with mock.patch("hadnot.turning.MOST_NODES", most):
                    for work in (count_turning, lambda *parts: list(turning_sets(*parts))):
                        try:
                            work(worth, standing)
                            wide = False
                        except TooWide:
                            wide = True
                        self.assertIs(wide, many > most, (worth.nodes, standing, most))
                seen[wide] += 1
        self.assertGreater(min(seen.values()), 300)

    def many_terms(self, choices):
        """The choices t0, t1, t2 tell which one of 64 terms counts; each of these needs four other choices."""
        rows = random.Random(7)
        names = [name for name in choices.names if name[0] == "c"]

        def term(level):
            if level < 3:
                worth = Worth(choices, None)
                for option in range(4):
                    here = Worth.by(choices, f"t{level}", [at == option for at in range(4)])
                    worth = here.when(term(level + 1), worth)
                return worth
            worth = Worth(choices, True)
            for at in sorted(rows.sample(range(len(names)), 4)):
                worth = worth & Worth.by(choices, names[at], (False, True))
            return worth

        return term(0)

    def test_far_too_wide(self):
        """Each term is narrow, and so is the worth: all together they are not."""
        choices = choices_of(t0=4, t1=4, t2=4, **{f"c{at}": 2 for at in range(37)})
        worth = self.many_terms(choices)
        self.assertLessEqual(len(worth), 300)
        with self.assertRaises(TooWide):
            count_turning(worth, {})
        # If one choice is enough, what is reached with it is narrow, however wide its options are together.
        for name in ("t0", "t1"):
            worth = worth | Worth.by(choices, name, (False, True, False, False))
        rows = list(turning_sets(worth, {}))
        self.assertEqual(rows[:2], [(("t0", 1),), (("t1", 1),)])
        self.assertEqual(len(rows), count_turning(worth, {}))

    def test_wide_parts(self):
        """What is too wide alone may be narrow with another part that stands at a later choice."""
        choices = choices_of(s=3, u=2, y=2, z=2, t0=4, t1=4, t2=4, **{f"c{at}": 2 for at in range(33)})
        wide = self.many_terms(choices)
        u, y, z = [Worth.by(choices, name, (False, True)) for name in "uyz"]
        parts = [Worth(choices, False), y | z & wide & ~u, z | y & wide]
        for at in (1, 2):
            here = Worth.by(choices, "s", [option == at for option in range(3)])
            with self.assertRaises(TooWide):
                count_turning(here & parts[at], {})
        worth = Worth(choices, None)
        for at, part in enumerate(parts):
            worth = Worth.by(choices, "s", [option == at for option in range(3)]).when(part, worth)
        self.assertLessEqual(len(worth), 300)
        self.assertEqual(list(turning_sets(worth, {})), [(("s", 1), ("y", 1)), (("s", 2), ("z", 1))])
        self.assertEqual(count_turning(worth, {}), 2)

    def test_arguments(self):
        choices = choices_of(a=2, b=2)
        worth = Worth.by(choices, "b", (1, 2))
        world = {"a": 1}
        self.assertEqual(list(turning_sets(worth=worth, standing=world)), [(("b", 1),)])
        self.assertEqual((count_turning(worth=worth, standing=world), world), (1, {"a": 1}))
        rows = turning_sets(worth, world)
        next(rows)
        world["b"] = 1
        self.assertEqual(list(rows), [])


class SupportTest(unittest.TestCase):
    def test_all_worlds(self):
        for worth, standing in random_worths(150, 2):
            for name in worth.choices.names:
                for option in range(worth.choices[name]):
                    if option != standing[name]:
                        pair = (name, option)
                        self.assertEqual(support(worth, standing, pair), support_by_hand(worth, standing, pair))

    def test_simple(self):
        choices = choices_of(a=2, b=2, c=2)
        worth = worth_of(choices, lambda world: world["a"] + world["b"] + world["c"] >= 2)
        self.assertEqual(support(worth, {}, ("b", 1)), (("a", 1),))
        self.assertEqual(support(worth, {}, ["a", 1]), (("b", 1),))
        self.assertEqual(support(worth, {"a": 1}, ("b", 1)), ())
        self.assertIsNone(support(Worth(choices, 1), {}, ("b", 1)))
        self.assertIsNone(support(Worth.by(choices, "a", (0, 1)), {}, ("b", 1)))
        self.assertEqual(support(worth=worth, standing={"c": 0}, pair=("c", 1)), (("a", 1),))

    def test_large(self):
        choices = many_choices(40)
        worth, _ = threshold(choices, 20)
        self.assertEqual(support(worth, {}, ("c5", 1)), tuple((f"c{at}", 1) for at in range(20) if at != 5))
        self.assertIsNone(support(worth, {name: 1 for name in choices.names[:30]}, ("c35", 1)))


if __name__ == "__main__":
    unittest.main()
