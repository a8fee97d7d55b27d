"""The cheapest world ([34]), against all worlds gone through one by one."""

import random
import unittest

from hadnot.choices import Choices
from hadnot.wishes import cheapest
from hadnot.worths import Worth
from helpers import VALUES, Knots, choices_of, many_choices, place, random_worths, rows_of, worth_of


def price_of(pairs, prices):
    return sum(prices[name][option] if name in prices else 1 for name, option in pairs)


def cheapest_by_hand(worth, standing, prices):
    worlds = [(price_of(pairs, prices), pairs) for pairs, value in rows_of(worth, standing) if value is True]
    return min(worlds, key=lambda world: (world[0], place(worth.choices, world[1])), default=None)


def random_prices(choices, rows):
    """Prices of some choices, also of options that stand."""
    few = rows.choice(((0, 1), (0, 1, 2, 3), (0, 0, 5), (10 ** 9, 10 ** 9 - 1), (1,)))
    return {name: tuple(rows.choice(few) for _ in range(choices[name]))
            for name in choices.names if rows.random() < 0.7}


class WishesTest(unittest.TestCase):
    def test_all_worlds(self):
        rows = random.Random(8)
        never, several = 0, 0
        for worth, standing in random_worths(400, 5):
            prices = random_prices(worth.choices, rows)
            wanted = cheapest_by_hand(worth, standing, prices)
            self.assertEqual(repr(cheapest(worth, standing, prices)), repr(wanted))
            never += wanted is None
            if wanted is not None:
                several += sum(value is True and price_of(pairs, prices) == wanted[0]
                               for pairs, value in rows_of(worth, standing)) > 1
        self.assertGreater(min(never, several), 40)

    def test_simple(self):
        choices = choices_of(tip=2, buy=2, c=3)
        worth = worth_of(choices, lambda world: world["tip"] + world["buy"] + world["c"] >= 2)
        self.assertEqual(cheapest(worth, {}, {}), (1, (("c", 2),)))
        self.assertEqual(cheapest(worth, {}, {"c": (0, 1, 3)}), (2, (("tip", 1), ("buy", 1))))
        self.assertEqual(cheapest(worth, {}, {"c": (0, 1, 3), "buy": (0, 2)}), (2, (("tip", 1), ("c", 1))))
        self.assertEqual(cheapest(worth, {"tip": 1}, {"tip": (7, 7)}), (1, (("buy", 1),)))
        self.assertEqual(cheapest(worth, {"tip": 1, "buy": 1}, {}), (0, ()))

    def test_same_price(self):
        """Fewer pairs come first, then the lesser choices and options."""
        choices = choices_of(b=3, a=2, c=2)
        either = worth_of(choices, lambda world: world["c"] == 1 or world["a"] == 1 and world["b"] == 1)
        self.assertEqual(cheapest(either, {}, {"c": (0, 2)}), (2, (("c", 1),)))
        self.assertEqual(cheapest(either, {}, {"a": (0, 0), "b": (0, 0, 0), "c": (0, 0)}), (0, (("c", 1),)))
        pair = worth_of(choices, lambda world: world["b"] > 0 and world["a"] != world["c"])
        self.assertEqual(cheapest(pair, {}, {}), (2, (("b", 1), ("a", 1))))
        self.assertEqual(cheapest(pair, {}, {"b": (0, 1, 1), "a": (0, 2), "c": (0, 2)}), (3, (("b", 1), ("a", 1))))
        self.assertEqual(cheapest(pair, {}, {"b": (0, 2, 1)}), (2, (("b", 2), ("a", 1))))
        # The choice that is given its number first comes first, whatever its name is.
        choices = Choices().put("z", 2).put("x", 2).without("z").put("y", 2).put("z", 2)
        late = worth_of(choices, lambda world: world["z"] == 1 or world["y"] == 1)
        self.assertEqual(cheapest(late, {}, {}), (1, (("y", 1),)))

    def test_price_of_nothing(self):
        choices = choices_of(a=2, b=2)
        worth = Worth.by(choices, "b", (False, True))
        # A change that costs nothing is a pair more all the same.
        self.assertEqual(cheapest(worth, {}, {"a": (0, 0), "b": (5, 0)}), (0, (("b", 1),)))
        # An option that stands costs nothing, whatever its price is.
        self.assertEqual(cheapest(worth, {"b": 1}, {"b": (0, 9)}), (0, ()))
        self.assertEqual(cheapest(~worth, {"b": 1}, {"b": (4, 9)}), (4, (("b", 0),)))

    def test_never(self):
        choices = choices_of(a=2, b=3)
        for value in VALUES:
            wanted = (0, ()) if value is True else None
            self.assertEqual(cheapest(Worth(choices, value), {"b": 2}, {}), wanted)
        # 1 is not True.
        self.assertIsNone(cheapest(Worth.by(choices, "b", (1, "true", None)), {}, {}))
        self.assertEqual(cheapest(Worth.by(choices, "b", (1, 1, True)), {}, {}), (1, (("b", 2),)))
        self.assertIsNone(cheapest(Worth(Choices(), False), {}, {}))

    def test_knots(self):
        for seed in range(12):
            knots = Knots(seed, (4,) * 10, (True, False, False, None, 1))
            alone = [cheapest_by_hand(worth, world, knots.prices) for worth, world in zip(knots.alone, knots.worlds())]
            wanted = None
            if None not in alone:
                wanted = (sum(price for price, _ in alone), tuple(pair for _, pairs in alone for pair in pairs))
            both = Worth(knots.choices, True)
            some = Worth(knots.choices, False)
            for worth in knots.spread:
                both = both & worth.is_value(True)
                some = some | worth.is_value(True)
            self.assertGreater(len(some.depends), 30)
            self.assertEqual(cheapest(both, knots.standing, knots.prices), wanted)
            alone = [world for world in alone if world is not None]
            least = min(alone, key=lambda world: (world[0], place(knots.choices, world[1])))
            self.assertEqual(cheapest(some, knots.standing, knots.prices), least)

    def test_limits(self):
        choices = many_choices(40)
        total = Worth(choices, 0)
        for name in choices.names[:20]:
            total = total + Worth.by(choices, name, (0, 1))
        worth = Worth(choices, 9).below(total)
        self.assertGreater(len(total), 200)
        prices = {f"c{at}": (0, 10 ** 9 - at) for at in range(40)}
        dear = sum(10 ** 9 - at for at in range(10, 20))
        self.assertEqual(cheapest(worth, {}, prices), (dear, tuple((f"c{at}", 1) for at in range(10, 20))))
        self.assertEqual(cheapest(worth, {}, {}), (10, tuple((f"c{at}", 1) for at in range(10))))
        self.assertIsNone(cheapest(total, {}, prices))
        # What the package itself makes may be larger.
        wide = Worth(choices, True)
        for at in range(14):
            wide = wide & Worth.by(choices, f"c{at}", (False, True)).same(Worth.by(choices, f"c{at + 20}", (False, True)))
        self.assertGreater(len(wide), 16000)
        self.assertEqual(cheapest(wide, {"c3": 1, "c20": 1}, {"c0": (0, 2), "c20": (2, 0)}),
                         (3, (("c0", 1), ("c3", 0))))

    def test_arguments(self):
        choices = choices_of(a=2, b=2)
        worth = Worth.by(choices, "b", (False, True))
        standing, prices = {"a": 1}, {"b": [0, 7]}
        self.assertEqual(cheapest(worth=worth, standing=standing, prices=prices), (7, (("b", 1),)))
        self.assertEqual((standing, prices), ({"a": 1}, {"b": [0, 7]}))


if __name__ == "__main__":
    unittest.main()
