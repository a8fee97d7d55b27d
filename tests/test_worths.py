"""[10] to [14]: worths, held against tables of their values in all worlds."""

import itertools
import random
import unittest

from hadnot.choices import Choices
from hadnot.errors import OtherChoices, UnknownName
from hadnot.worths import Worth
from helpers import OTHERS, VALUES, all_worlds, choices_of, drawn, kind, ordered, random_table, same, worth_of

ALL_CHOICES = (
    Choices(),
    choices_of(a=2),
    choices_of(b=4),
    choices_of(b=3, word=2),
    choices_of(a=2, number=2, c=3),
    choices_of(x=2, z=2, y=2, truth=2),
    choices_of(x=2, b=2, a=3, q=2).without("x").put("none", 2),
)
SETS = (VALUES, (0, 1, 2, 3), (True, False), (None, True, False), (1, True, 0, False), ("a", "b", None), (5, None))


def tables(seeds=3):
    """Choices, a function of their worlds, and the worth of it."""
    for choices, values, seed in itertools.product(ALL_CHOICES, SETS, range(seeds)):
        told = random_table(choices, values, seed)
        yield choices, told, worth_of(choices, told)


def pairs():
    """Choices and two functions and worths over them."""
    for choices, (at, values), seed in itertools.product(ALL_CHOICES, enumerate(SETS), range(2)):
        one = random_table(choices, values, seed)
        for other_values in (values, SETS[(at + 1) % len(SETS)], SETS[0]):
            other = random_table(choices, other_values, seed + 100)
            yield choices, one, worth_of(choices, one), other, worth_of(choices, other)


class FormTest(unittest.TestCase):
    def check(self, worth, choices, told):
        """Whether a worth has these values, and the form of them."""
        self.assertIsInstance(worth, Worth)
        self.assertEqual(worth.choices, choices)
        for world in all_worlds(choices):
            self.assertTrue(same(worth(world), told(world)), (world, worth(world), told(world)))
        self.assertEqual(repr(worth.nodes), repr(drawn(choices, told)))


class WorthTest(FormTest):
    def test_one_value(self):
        for choices in ALL_CHOICES:
            for value in (*VALUES, 10 ** 300):
                worth = Worth(choices, value)
                self.check(worth, choices, lambda world, value=value: value)
                self.assertEqual(worth.nodes, ((kind(value), value),))
                self.assertEqual((len(worth), worth.depends, worth.outcomes), (1, (), (value,)))

    def test_by_a_choice(self):
        for choices in ALL_CHOICES:
            for name in choices.names:
                for values in itertools.product((1, True, None, "a"), repeat=choices[name]):
                    told = lambda world, name=name, values=values: values[world[name]]
                    self.check(Worth.by(choices, name, values), choices, told)
                    self.check(Worth.by(choices, name, list(values)), choices, told)

    def test_by_an_unknown_name(self):
        for choices in ALL_CHOICES:
            for name in ("d", "", "A"):
                with self.assertRaises(UnknownName) as caught:
                    Worth.by(choices, name, (1, 2))
                self.assertEqual(caught.exception.name, name)

    def test_by_name(self):
        choices = choices_of(a=2)
        self.assertEqual(Worth(choices=choices, value=1).nodes, (("number", 1),))
        worth = Worth.by(choices=choices, name="a", values=(1, 2))
        self.assertEqual(worth(world={"a": 1}), 2)
        self.assertEqual(worth.count(value=2), 1)
        self.assertEqual(worth.least(other=worth).most(other=worth), worth)
        self.assertEqual(worth.below(other=worth) | worth.same(other=worth), Worth(choices, True))
        self.assertEqual(worth.is_value(value=1).when(one=worth, other=worth), worth)
        self.assertEqual(worth.limited(truth=worth.is_value(1)).or_else(other=worth), worth)
        self.assertEqual(worth.some(name="a"), worth.every(name="a"))
        self.assertEqual(worth.put(name="a", other=worth - worth)({}), 1)
        self.assertIsNone(worth.parting(other=worth))

    def test_later_changes_have_no_effect(self):
        values = [1, 2]
        choices = choices_of(a=2)
        worth = Worth.by(choices, "a", values)
        values[1] = 5
        self.assertEqual(worth.outcomes, (1, 2))

    def test_worlds_may_leave_out_choices(self):
        choices = choices_of(a=2, b=3)
        worth = worth_of(choices, lambda world: 10 * world["a"] + world["b"])
        self.assertEqual([worth({}), worth({"a": 1}), worth({"b": 2}), worth({"b": 1, "a": 1})], [0, 10, 2, 11])

    def test_form(self):
        for choices, told, worth in tables():
            self.check(worth, choices, told)
            self.assertEqual(len(worth), len(worth.nodes))
            values = [told(world) for world in all_worlds(choices)]
            self.assertEqual(repr(worth.outcomes), repr(tuple(ordered(values))))
            for value in (*VALUES, *OTHERS, *[node[0] for node in worth.nodes], *[node[1] for node in worth.nodes]):
                self.assertIs(value in worth, any(same(value, there) for there in values), value)
            for value in VALUES:
                self.assertEqual(worth.count(value), sum(same(value, there) for there in values))

    def test_example(self):
        choices = choices_of(tip=2, buy=2)
        pay = Worth.by(choices, "tip", (10, 6))
        cash = pay - (Worth(choices, 6).below(pay) & Worth.by(choices, "buy", (False, True))).when(
            Worth(choices, 6), Worth(choices, 0))
        self.assertEqual(cash.nodes, (("number", 10), ("number", 4), ("buy", (0, 1)), ("number", 6), ("tip", (2, 3))))
        self.assertEqual(str(cash), "10 ; 4 ; buy(0 1) ; 6 ; tip(2 3)")
        self.assertEqual(cash.depends, ("tip", "buy"))

    def test_texts(self):
        choices = choices_of(a=3, b=2)
        rows = ((None, "none"), (True, "true"), (False, "false"), ("a", "'a"), (-5, "-5"), (10 ** 300, str(10 ** 300)))
        for value, text in rows:
            self.assertEqual(str(Worth(choices, value)), text)
        worth = worth_of(choices, lambda world: ("none", None, 1)[world["a"]] if world["b"] else True)
        self.assertEqual(str(worth), "true ; 'none ; b(0 1) ; none ; b(0 3) ; 1 ; b(0 5) ; a(2 4 6)")

    def test_depends(self):
        for choices, told, worth in tables():
            names = []
            for name in choices.names:
                for world in all_worlds(choices):
                    if not same(told(world), told({**world, name: 0})) and name not in names:
                        names.append(name)
            self.assertEqual(worth.depends, tuple(names))

    def test_put_together_in_another_order(self):
        for choices, told, worth in tables(seeds=1):
            for order in itertools.permutations(choices.names):
                other = worth_of(choices, told, order)
                self.assertIs(worth == other, True)
                self.assertFalse(worth != other)
                self.assertEqual(repr(worth.nodes), repr(other.nodes))

    def test_equal_only_without_parting_world(self):
        for choices, one, worth, other, other_worth in pairs():
            parted = [world for world in all_worlds(choices) if not same(one(world), other(world))]
            self.assertIs(worth == other_worth, not parted)
            self.assertIs(worth != other_worth, bool(parted))
            self.assertEqual(worth.parting(other_worth), parted[0] if parted else None)
            self.assertEqual(other_worth.parting(worth), parted[0] if parted else None)
            self.assertIsNone(worth.parting(worth_of(choices, one)))

    def test_equal_kinds_and_choices(self):
        choices = choices_of(a=2)
        self.assertIs(Worth(choices, 1) == Worth(choices, True), False)
        self.assertIs(Worth(choices, 0) == Worth(choices, False), False)
        self.assertIs(Worth(choices, 0) == Worth(choices, None), False)
        self.assertIs(Worth(choices, 1) == Worth(choices_of(a=3), 1), False)
        self.assertIs(Worth(choices, 1) == Worth(Choices(), 1), False)
        self.assertIs(Worth(choices, 1) == Worth(choices_of(a=2, b=2).without("b"), 1), True)
        for other in (1, None, "1", (("number", 1),), [], choices, object()):
            self.assertIs(Worth(choices, 1) == other, False)
            self.assertIs(other == Worth(choices, 1), False)

    def test_not_iterated(self):
        for worth in (Worth(Choices(), 1), Worth.by(choices_of(a=2), "a", (1, 2))):
            for work in (iter, list, tuple, sorted, set):
                self.assertRaises(TypeError, work, worth)

    def test_option_everywhere(self):
        for choices, told, worth in tables():
            for name in choices.names:
                for option in range(choices[name]):
                    self.check(worth[name, option], choices, lambda world: told({**world, name: option}))
            with self.assertRaises(UnknownName) as caught:
                worth["d", 0]
            self.assertEqual(caught.exception.name, "d")

    def test_truths_over_a_choice(self):
        for choices, told, worth in tables():
            for name in choices.names:
                def values(world):
                    return [told({**world, name: option}) is True for option in range(choices[name])]
                self.check(worth.some(name), choices, lambda world: any(values(world)))
                self.check(worth.every(name), choices, lambda world: all(values(world)))
            for work in (worth.some, worth.every):
                with self.assertRaises(UnknownName) as caught:
                    work("d")
                self.assertEqual(caught.exception.name, "d")

    def test_has_a_value(self):
        for choices, told, worth in tables(seeds=2):
            for value in VALUES:
                self.check(worth.is_value(value), choices, lambda world: same(told(world), value))

    def test_put(self):
        for choices, one, worth, other, other_worth in pairs():
            for name in choices.names:
                def told(world):
                    option = other(world)
                    if kind(option) != "number" or not 0 <= option < choices[name]:
                        return None
                    return one({**world, name: option})
                self.check(worth.put(name, other_worth), choices, told)

    def test_put_with_errors(self):
        choices = choices_of(a=2, b=2)
        worth, stranger = Worth.by(choices, "a", (1, 2)), Worth(choices_of(a=2), 0)
        with self.assertRaises(UnknownName) as caught:
            worth.put("c", stranger)
        self.assertEqual(caught.exception.name, "c")
        self.assertRaises(OtherChoices, worth.put, "a", stranger)
        self.assertRaises(UnknownName, worth.put, "c", worth)


def both(one, other, *kinds):
    return kind(one) == kind(other) and kind(one) in kinds


DEEDS = {
    "+": (lambda x, y: x + y, lambda x, y: x + y if both(x, y, "number") else None),
    "-": (lambda x, y: x - y, lambda x, y: x - y if both(x, y, "number") else None),
    "*": (lambda x, y: x * y, lambda x, y: x * y if both(x, y, "number") else None),
    "least": (lambda x, y: x.least(y), lambda x, y: min(x, y) if both(x, y, "number") else None),
    "most": (lambda x, y: x.most(y), lambda x, y: max(x, y) if both(x, y, "number") else None),
    "&": (lambda x, y: x & y, lambda x, y: x and y if both(x, y, "truth") else None),
    "|": (lambda x, y: x | y, lambda x, y: x or y if both(x, y, "truth") else None),
    "below": (lambda x, y: x.below(y), lambda x, y: x < y if both(x, y, "number", "word") else None),
    "same": (lambda x, y: x.same(y), lambda x, y: x == y if both(x, y, "number", "word", "truth") else None),
    "limited": (lambda x, y: x.limited(y), lambda x, y: x if y is True else None),
    "or_else": (lambda x, y: x.or_else(y), lambda x, y: y if x is None else x),
}


class DeedTest(FormTest):
    def test_two_worths(self):
        for choices, one, worth, other, other_worth in pairs():
            nodes = (worth.nodes, other_worth.nodes)
            for deed, plain in DEEDS.values():
                self.check(deed(worth, other_worth), choices, lambda world: plain(one(world), other(world)))
            self.assertEqual((worth.nodes, other_worth.nodes), nodes)

    def test_all_pairs_of_values(self):
        choices = choices_of(a=2)
        for x, y in itertools.product((*VALUES, 10 ** 300), repeat=2):
            for deed, plain in DEEDS.values():
                self.check(deed(Worth(choices, x), Worth(choices, y)), choices, lambda world: plain(x, y))

    def test_one_worth(self):
        for choices, told, worth in tables():
            self.check(-worth, choices, lambda world: -told(world) if kind(told(world)) == "number" else None)
            self.check(~worth, choices, lambda world: not told(world) if kind(told(world)) == "truth" else None)

    def test_when(self):
        rows = random.Random(1)
        for choices, one, worth, other, other_worth in pairs():
            truth = random_table(choices, rows.choice(SETS), rows.random())

            def told(world):
                return {True: one(world), False: other(world)}[truth(world)] if kind(truth(world)) == "truth" else None
            self.check(worth_of(choices, truth).when(worth, other_worth), choices, told)

    def test_other_choices(self):
        choices = choices_of(a=2, b=2)
        worth = Worth.by(choices, "a", (True, False))
        for other_choices in (Choices(), choices_of(a=2), choices_of(b=2, a=2), choices_of(a=2, b=3),
                              choices_of(a=2, b=2, c=2), choices_of(c=2, a=2, b=2).without("c")):
            other = Worth(other_choices, True)
            for deed, _ in DEEDS.values():
                self.assertRaises(OtherChoices, deed, worth, other)
                self.assertRaises(OtherChoices, deed, other, worth)
            self.assertRaises(OtherChoices, worth.parting, other)
            self.assertRaises(OtherChoices, worth.when, worth, other)
            self.assertRaises(OtherChoices, worth.when, other, worth)
            self.assertRaises(OtherChoices, other.when, worth, worth)

    def test_equal_choices_of_other_ways(self):
        one = choices_of(a=2, b=2)
        other = choices_of(a=2, b=2, c=2).without("c")
        told = Worth.by(one, "a", (1, 2)) + Worth.by(other, "b", (10, 20))
        self.check(told, one, lambda world: (1, 2)[world["a"]] + (10, 20)[world["b"]])


class WideTest(unittest.TestCase):
    """Worths over so many choices that nothing could go through their worlds."""

    def choices(self, many, options=2):
        return choices_of(**{f"c{at}": options for at in range(many)})

    def number(self, choices, weights):
        worth = Worth(choices, 0)
        for name, weight in zip(choices.names, weights):
            worth = worth + Worth.by(choices, name, [weight * option for option in range(choices[name])])
        return worth

    def worlds(self, choices, many=50):
        rows = random.Random(7)
        for _ in range(many):
            yield {name: rows.randrange(choices[name]) for name in choices.names}

    def test_sum_of_forty(self):
        choices = self.choices(40)
        worth = self.number(choices, [1] * 40)
        self.assertEqual(worth.outcomes, tuple(range(41)))
        self.assertEqual(worth.depends, choices.names)
        self.assertEqual(len(worth), 41 + 40 * 41 // 2)
        self.assertEqual([worth.count(value) for value in (0, 1, 2, 40, 41, True)], [1, 40, 780, 1, 0, 0])
        self.assertEqual(sum(worth.count(value) for value in worth.outcomes), 2 ** 40)
        self.assertEqual(str(worth).count(" ; "), len(worth) - 1)
        for world in self.worlds(choices):
            self.assertEqual(worth(world), sum(world.values()))

    def test_order_does_not_matter(self):
        choices = self.choices(40)
        worth = self.number(choices, [1] * 40)
        rows = list(choices.names)
        random.Random(3).shuffle(rows)
        other = Worth(choices, 0)
        for name in rows:
            other = Worth.by(choices, name, (0, 1)) + other
        self.assertEqual(worth, other)
        self.assertIsNone(worth.parting(other))

    def test_parting_of_great_worths(self):
        choices = self.choices(40)
        one = self.number(choices, [1] * 40)
        more = Worth.by(choices, "c39", (0, 100)).limited(one.is_value(20)).or_else(Worth(choices, 0))
        # The least world with the sum 20 in which c39 has option 1.
        least = {f"c{at}": int(at >= 20) for at in range(40)}
        self.assertEqual(one.parting(one + more), least)
        self.assertEqual((one + more).parting(one), least)
        self.assertEqual((one + more)(least), 120)

    def test_twenty_thousand_nodes(self):
        choices = self.choices(16)
        weights = (1, 2, 4, 8, 16, 32, 64)
        one = self.number(choices, [weight for weight in weights for weight in (weight, 0)])
        other = self.number(choices, [weight for weight in weights for weight in (0, 1000 * weight)])
        self.assertLess(len(one), 300)
        great = one + other
        self.assertGreater(len(great), 10000)
        for world in self.worlds(choices):
            self.assertEqual(great(world), one(world) + other(world))
        self.assertEqual(great - other, one)
        self.assertEqual(great.count(127), 4)
        self.assertEqual(len(great.outcomes), 2 ** 14)
        self.assertEqual(great.parting(one), choices.full({"c13": 1}))
        self.assertEqual(great.below(great), Worth(choices, False))
        self.assertEqual(great["c0", 1] - great["c0", 0], Worth(choices, 1))
        self.assertEqual(great.put("c0", Worth.by(choices, "c2", (1, 0)))({}), 1)
        self.assertEqual(great.below(Worth(choices, 5)).some("c1"), great["c1", 0].below(Worth(choices, 5)))
        self.assertEqual(len(str(great).split(" ; ")), len(great))

    def test_more_options(self):
        choices = self.choices(20, 4)
        worth = self.number(choices, [1] * 20)
        self.assertEqual(worth.outcomes, tuple(range(61)))
        self.assertEqual((worth.count(0), worth.count(1), worth.count(2)), (1, 20, 20 + 190))
        half = worth.below(Worth(choices, 30))
        self.assertEqual(half.count(True) * 2 + worth.count(30), 4 ** 20)
        self.assertEqual(half.every("c5"), worth["c5", 3].below(Worth(choices, 30)))
        for world in self.worlds(choices):
            self.assertEqual(half.when(worth, -worth)(world), worth(world) if worth(world) < 30 else -worth(world))
            changed = {**world, "c3": world["c7"]}
            self.assertEqual(worth.put("c3", Worth.by(choices, "c7", (0, 1, 2, 3)))(world), worth(changed))
