"""[8], [9]: choices and worlds."""

import itertools
import random
import unittest

from hadnot.choices import Choices
from hadnot.errors import InvalidName, Taken, UnknownName
from helpers import OTHERS, VALUES, all_worlds, choices_of

NO_NAMES = ("", "abcdefg", "A", "1a", "a b", "a\n", "\u00e9", "a_", ".", ".1", "a.", "a.01", "a.00", "a.100",
            "a.b", "a.1.2", "a. 1", "a.-1", "a.1 ", "A.1", "abcdefg.1", "1.1", "a.\u0661", " a.1")
NAMES = ("a", "z9", "abcdef", "a.0", "a.9", "a.10", "a.59", "a.99", "abcdef.42", "a1.1")


class PutTest(unittest.TestCase):
    def test_nothing(self):
        choices = Choices()
        self.assertEqual(choices.names, ())
        self.assertEqual(len(choices), 0)
        self.assertNotIn("a", choices)

    def test_names(self):
        for name in NAMES:
            choices = Choices().put(name, 3)
            self.assertEqual(choices.names, (name,))
            self.assertIn(name, choices)
            self.assertEqual((choices[name], choices.number(name), len(choices)), (3, 0, 1))

    def test_texts_that_are_no_names(self):
        for name in NO_NAMES:
            choices = choices_of(x=2)
            with self.assertRaises(InvalidName) as caught:
                choices.put(name, 2)
            self.assertEqual(caught.exception.name, name)
            self.assertEqual(choices, choices_of(x=2))

    def test_taken(self):
        choices = choices_of(a=2, b=3).put("a.1", 2)
        for name in ("a", "b", "a.1"):
            with self.assertRaises(Taken) as caught:
                choices.put(name, 2)
            self.assertEqual(caught.exception.name, name)
        self.assertEqual(choices.put("a.2", 4).names, ("a", "b", "a.1", "a.2"))

    def test_unknown(self):
        for choices in (Choices(), choices_of(a=2), choices_of(a=2, b=2).without("b")):
            for name in ("b", "", "A b", "a.1", "aa"):
                self.assertNotIn(name, choices)
                for work in (choices.without, choices.number, choices.__getitem__):
                    with self.assertRaises(UnknownName) as caught:
                        work(name)
                    self.assertEqual(caught.exception.name, name)

    def test_arguments_by_name(self):
        choices = Choices().put(many=4, name="a").put("b", many=2)
        self.assertEqual((choices["a"], choices["b"], choices.number(name="b")), (4, 2, 1))
        self.assertEqual(choices.without(name="a").names, ("b",))
        self.assertEqual(choices.full(world={"b": 1}), {"a": 0, "b": 1})
        self.assertIs(choices.is_world(value={"a": 3}), True)

    def test_against_a_list(self):
        for seed in range(40):
            rows, many = random.Random(seed), 0
            choices, plain = Choices(), []
            for _ in range(60):
                name = rows.choice("abcdefgh")
                before, told = choices, list(plain)
                if name in [row[0] for row in plain]:
                    self.assertRaises(Taken, choices.put, name, 2)
                    choices = choices.without(name)
                    plain = [row for row in plain if row[0] != name]
                else:
                    self.assertRaises(UnknownName, choices.without, name)
                    options = rows.randint(2, 4)
                    choices = choices.put(name, options)
                    plain = plain + [(name, options, many)]
                    many += 1
                self.check(choices, plain)
                self.check(before, told)

    def check(self, choices, plain):
        self.assertEqual(choices.names, tuple(row[0] for row in plain))
        self.assertEqual(len(choices), len(plain))
        for name, options, number in plain:
            self.assertIn(name, choices)
            self.assertEqual((choices[name], choices.number(name)), (options, number))

    def test_numbers_are_never_given_again(self):
        choices = choices_of(a=2, b=2)
        choices = choices.without("b").put("b", 2)
        self.assertEqual((choices.number("a"), choices.number("b")), (0, 2))
        choices = choices.without("a").without("b").put("c", 2)
        self.assertEqual(choices.number("c"), 3)
        self.assertEqual(choices.put("a", 2).names, ("c", "a"))


class EqualTest(unittest.TestCase):
    def test_equal(self):
        self.assertEqual(Choices(), Choices())
        self.assertEqual(choices_of(a=2, b=3), choices_of(a=2, b=3))
        # What was left out, and the next number, are no matter.
        self.assertEqual(choices_of(a=2, b=3).without("b"), choices_of(a=2))
        self.assertEqual(choices_of(a=2).without("a"), Choices())

    def test_other(self):
        base = choices_of(a=2, b=3)
        others = (Choices(), choices_of(a=2), choices_of(b=3, a=2), choices_of(a=2, b=4), choices_of(a=2, c=3),
                  choices_of(a=2, b=3, c=2), choices_of(c=2, a=2, b=3).without("c"),
                  choices_of(a=2, c=2, b=3).without("c"), choices_of(a=2, b=3).without("a").put("a", 2))
        for other in others:
            self.assertIs(base == other, False)
            self.assertTrue(base != other)

    def test_other_classes(self):
        for other in (None, {}, (), [], 0, "", ("a", "b"), {"a": 2, "b": 3}, object()):
            self.assertIs(Choices() == other, False)
            self.assertIs(choices_of(a=2, b=3) == other, False)
            self.assertIs(other == choices_of(a=2, b=3), False)

    def test_not_iterated(self):
        for choices in (Choices(), choices_of(a=2)):
            for work in (iter, list, tuple, sorted, set):
                self.assertRaises(TypeError, work, choices)


class WorldTest(unittest.TestCase):
    def test_full(self):
        choices = choices_of(a=2, b=3, c=4)
        self.assertEqual(choices.full({}), {"a": 0, "b": 0, "c": 0})
        self.assertEqual(choices.full({"b": 2}), {"a": 0, "b": 2, "c": 0})
        self.assertEqual(Choices().full({}), {})
        world = {"c": 3}
        full = choices.full(world)
        full["a"] = 1
        self.assertEqual(world, {"c": 3})
        self.assertEqual(choices.full(world), {"a": 0, "b": 0, "c": 3})

    def test_worlds_in_order(self):
        for many in ((), (2,), (3, 2), (2, 4, 3), (2, 2, 2, 2)):
            choices = choices_of(**dict(zip("abcd", many)))
            worlds = list(choices.worlds())
            self.assertEqual(worlds, all_worlds(choices))
            rows = [tuple(world[name] for name in choices.names) for world in worlds]
            self.assertEqual(rows, sorted(rows))
        # The order of numbers is not that of the names.
        choices = choices_of(z=2, a=2)
        self.assertEqual(list(choices.worlds())[1], {"z": 0, "a": 1})

    def test_worlds_are_a_generator_of_new_dicts(self):
        choices = choices_of(a=2)
        told = choices.worlds()
        self.assertIs(iter(told), told)
        for world in told:
            world["a"] = 7
        self.assertEqual(list(choices.worlds()), [{"a": 0}, {"a": 1}])

    def test_many_choices(self):
        choices = choices_of(**{f"c{at}": 4 for at in range(40)})
        told = list(itertools.islice(choices.worlds(), 6))
        self.assertEqual([world["c39"] for world in told], [0, 1, 2, 3, 0, 1])
        self.assertEqual([world["c38"] for world in told], [0, 0, 0, 0, 1, 1])

    def test_is_world(self):
        choices = choices_of(a=2, b=4).put("d.1", 2)
        for world in ({}, {"a": 0}, {"a": 1, "b": 3}, {"b": 0, "d.1": 1}, *choices.worlds()):
            self.assertIs(choices.is_world(world), True)
            self.assertIs(choices.is_world(choices.full(world)), True)
        for world in ({"a": 2}, {"b": 4}, {"a": -1}, {"c": 0}, {"a": 0, "c": 0}, {"a": True}, {"a": False},
                      {"b": True}, {"a": None}, {"a": "a"}, {"a": "0"}, {"a": (0,)}, {"": 0}, {"A": 0},
                      {"d": 0}, {"d.0": 0}, {"d.1": 2}, {"a": 10 ** 300}, {1: 0}, {None: 0}, {("a", 0): 0}):
            self.assertIs(choices.is_world(world), False, world)

    def test_is_world_of_other_values(self):
        for value in (*VALUES, *OTHERS, (("a", 0),), "a", ("a",)):
            self.assertIs(choices_of(a=2).is_world(value), False, value)
        self.assertIs(Choices().is_world({}), True)
        self.assertIs(Choices().is_world({"a": 0}), False)
        # Left out choices are no more in a world.
        self.assertIs(choices_of(a=2, b=2).without("b").is_world({"b": 0}), False)
