"""Free sets and what is to be shown ([35], [36]), against all worlds gone through one by one."""

import random
import unittest

from hadnot.choices import Choices
from hadnot.errors import UnknownName
from hadnot.hidden import free_set, to_show
from hadnot.worths import Worth
from helpers import VALUES, Knots, choices_of, many_choices, random_worths, rows_of, same, worth_of


class ByHand:
    """The rows of pairs that turn the answer, in order."""

    def __init__(self, worth, standing):
        self.worth = worth
        self.names = worth.choices.names
        self.answer = worth(standing)
        self.turned = [pairs for pairs, value in rows_of(worth, standing) if not same(value, self.answer)]

    def first(self, names):
        """The first row of pairs within some choices."""
        return next((pairs for pairs in self.turned if {name for name, _ in pairs} <= set(names)), None)

    def free_set(self):
        free = []
        for name in self.names:
            if self.first([*free, name]) is None:
                free.append(name)
        return tuple(free), {name: self.first([*free, name]) for name in self.names if name not in free}

    def depends(self):
        """The choices whose options part some worlds that differ only in them."""
        return [name for name in self.names
                if any(self.worth[name, 0] != self.worth[name, option] for option in range(self.worth.choices[name]))]

    def to_show(self, seen):
        if self.first([name for name in self.names if name not in seen]) is None:
            return "told", self.answer
        left = [name for name in self.depends() if name not in seen]
        for name in list(left):
            rest = [other for other in left if other != name]
            if self.first([other for other in self.names if other not in (*seen, *rest)]) is None:
                left = rest
        return "show", tuple(left), {
            name: self.first([other for other in self.names if other == name or other not in (*seen, *left)])
            for name in left}


class FreeTest(unittest.TestCase):
    def test_all_worlds(self):
        for worth, standing in random_worths(300, 6):
            self.assertEqual(repr(free_set(worth, standing)), repr(ByHand(worth, standing).free_set()))

    def test_simple(self):
        choices = choices_of(c=2, a=3, b=2)
        worth = worth_of(choices, lambda world: 1 if world["a"] == 2 and world["b"] == 1 else 0)
        self.assertEqual(free_set(worth, {}), (("c", "a"), {"b": (("a", 2), ("b", 1))}))
        self.assertEqual(free_set(worth, {"b": 1}), (("c", "b"), {"a": (("a", 2),)}))
        self.assertEqual(free_set(worth, {"b": 1, "a": 2}), (("c",), {"a": (("a", 0),), "b": (("b", 0),)}))

    def test_ends(self):
        choices = choices_of(a=2, b=3)
        for value in VALUES:
            self.assertEqual(free_set(Worth(choices, value), {"b": 2}), (("a", "b"), {}))
        self.assertEqual(free_set(Worth(Choices(), 5), {}), ((), {}))
        # 1 and True are not the same.
        self.assertEqual(free_set(Worth.by(choices, "a", (1, True)), {}), (("b",), {"a": (("a", 1),)}))

    def test_whole_set_counts(self):
        """What is put in behind a choice may give it a lesser row."""
        choices = choices_of(a=2, b=2, c=2, d=2)
        turned = ({"a": 1, "b": 1, "c": 0, "d": 0}, {"a": 0, "b": 1, "c": 0, "d": 1}, {"a": 0, "b": 1, "c": 1, "d": 0})
        worth = worth_of(choices, lambda world: world in turned)
        self.assertEqual(free_set(worth, {}), (("a", "c", "d"), {"b": (("a", 1), ("b", 1))}))
        choices = choices_of(a=2, b=3, c=2)
        worth = worth_of(choices, lambda world: world["b"] == 2 or world["b"] == 1 and world["c"] == 1)
        self.assertEqual(free_set(worth, {"c": 0}), (("a", "c"), {"b": (("b", 2),)}))

    def test_numbers_of_choices(self):
        choices = Choices().put("z", 2).put("x", 2).without("z").put("b", 2).put("a", 2)
        worth = worth_of(choices, lambda world: world["a"] == 1 and world["b"] == 1 or world["x"] == 1)
        self.assertEqual(free_set(worth, {}), (("b",), {"x": (("x", 1),), "a": (("b", 1), ("a", 1))}))

    def test_knots(self):
        for seed in range(10):
            knots = Knots(seed, (4,) * 10, (0, 0, 0, 1))
            alone = [free_set(worth, world) for worth, world in zip(knots.alone, knots.worlds())]
            for (names, worlds), worth, world in zip(alone, knots.alone, knots.worlds()):
                self.assertEqual((names, worlds), ByHand(worth, world).free_set())
            total = knots.joined("+")
            self.assertEqual(free_set(total, knots.standing), (
                tuple(name for names, _ in alone for name in names),
                {name: pairs for _, worlds in alone for name, pairs in worlds.items()}))

    def test_limits(self):
        choices = many_choices(40)
        total = Worth(choices, 0)
        for name in choices.names[::2]:
            total = total + Worth.by(choices, name, (0, 1))
        worth = total.below(Worth(choices, 7))
        self.assertEqual(free_set(worth, {}), (
            tuple(name for at, name in enumerate(choices.names) if at % 2 or at < 12),
            {name: (*[(f"c{at}", 1) for at in range(0, 12, 2)], (name, 1)) for name in choices.names[12::2]}))

    def test_arguments(self):
        worth = Worth.by(choices_of(a=2, b=2), "b", (0, 1))
        standing = {"a": 1}
        first = free_set(worth=worth, standing=standing)
        self.assertEqual((first, standing), ((("a",), {"b": (("b", 1),)}), {"a": 1}))
        first[1]["a"] = ()
        self.assertEqual(free_set(worth, standing), (("a",), {"b": (("b", 1),)}))


class ShowTest(unittest.TestCase):
    def test_all_worlds(self):
        rows = random.Random(9)
        seen_kinds = {"told": 0, "show": 0}
        for worth, standing in random_worths(300, 7):
            by_hand = ByHand(worth, standing)
            names = worth.choices.names
            for seen in ((), names, tuple(rows.choice(names) for _ in range(3)) if names else ()):
                got = to_show(worth, standing, seen)
                self.assertEqual(repr(got), repr(by_hand.to_show(seen)))
                seen_kinds[got[0]] += 1
        self.assertGreater(min(seen_kinds.values()), 100)

    def test_simple(self):
        choices = choices_of(a=2, b=3, c=2, d=2)
        worth = worth_of(choices, lambda world: 5 if world["a"] == 1 and world["b"] == 2 or world["c"] == 1 else 0)
        self.assertEqual(to_show(worth, {}, ()), ("show", ("b", "c"), {"b": (("a", 1), ("b", 2)), "c": (("c", 1),)}))
        self.assertEqual(to_show(worth, {}, ("a",)), ("show", ("c",), {"c": (("c", 1),)}))
        self.assertEqual(to_show(worth, {}, ("a", "c", "a")), ("told", 0))
        self.assertEqual(to_show(worth, {"c": 1}, ("c",)), ("told", 5))
        self.assertEqual(to_show(worth, {"c": 1}, ["d", "d"]), ("show", ("c",), {"c": (("c", 0),)}))
        self.assertEqual(to_show(worth, {}, choices.names), ("told", 0))
        self.assertEqual(to_show(worth, {"a": 1, "b": 2}, ()), ("show", ("a", "b"), {"a": (("a", 0),), "b": (("b", 0),)}))

    def test_other_options(self):
        """The row of pairs that differs least, in the choices that nobody sees."""
        choices = choices_of(a=3, b=2, c=2)
        worth = worth_of(choices, lambda world: (world["a"] + world["b"]) % 3)
        self.assertEqual(to_show(worth, {"a": 1}, ("c",)), ("show", ("a", "b"), {"a": (("a", 0),), "b": (("b", 1),)}))
        self.assertEqual(to_show(worth, {"a": 1}, ("b",)), ("show", ("a",), {"a": (("a", 0),)}))
        self.assertEqual(to_show(worth, {"a": 1, "b": 1}, ("b", "a")), ("told", 2))

    def test_ends(self):
        choices = choices_of(a=2, b=3)
        for value in VALUES:
            for seen in ((), ("a",), ("b", "a", "b")):
                self.assertEqual(repr(to_show(Worth(choices, value), {"b": 2}, seen)), repr(("told", value)))
        self.assertEqual(to_show(Worth(Choices(), None), {}, ()), ("told", None))
        self.assertEqual(to_show(Worth.by(choices, "a", (1, True)), {}, ("b",)), ("show", ("a",), {"a": (("a", 1),)}))

    def test_unknown_names(self):
        worth = Worth.by(choices_of(a=2, b=3), "a", (1, 2))
        for seen, name in ((("x",), "x"), (("a", "y", "x"), "y"), (["x", "x"], "x"), (("b", "a.1"), "a.1")):
            for here in (worth, Worth(worth.choices, 1)):
                with self.assertRaises(UnknownName) as caught:
                    to_show(here, {}, seen)
                self.assertEqual(caught.exception.name, name)

    def test_knots(self):
        rows = random.Random(3)
        for seed in range(10):
            knots = Knots(seed, (4,) * 10, (0, 0, 0, 1))
            total = knots.joined("+")
            for many in (0, 5, 25, 40):
                seen = tuple(rows.sample(knots.choices.names, many))
                alone = []
                for worth, world in zip(knots.alone, knots.worlds()):
                    alone.append(ByHand(worth, world).to_show([name for name in seen if name in worth.choices]))
                wanted = ("told", total(knots.standing))
                shown = [told for told in alone if told[0] == "show"]
                if shown:
                    wanted = ("show", tuple(name for _, names, _ in shown for name in names),
                              {name: pairs for _, _, worlds in shown for name, pairs in worlds.items()})
                self.assertEqual(to_show(total, knots.standing, seen), wanted)

    def test_arguments(self):
        worth = Worth.by(choices_of(a=2, b=2), "b", (0, 1))
        standing, seen = {"a": 1}, ["a"]
        first = to_show(worth=worth, standing=standing, seen=seen)
        self.assertEqual((first, standing, seen), (("show", ("b",), {"b": (("b", 1),)}), {"a": 1}, ["a"]))
        first[2].clear()
        self.assertEqual(to_show(worth, standing, seen), ("show", ("b",), {"b": (("b", 1),)}))


if __name__ == "__main__":
    unittest.main()
