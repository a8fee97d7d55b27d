"""Papers ([37], [38], [39]): what the package returned, and each small change of it, against the definitions."""

import itertools
import random
import unittest

from hadnot.choices import Choices
from hadnot.errors import UnknownName
from hadnot.hidden import free_set, to_show
from hadnot.papers import free_holds, price_holds, price_paper, shown_holds, support_holds, turning_holds
from hadnot.supports import support
from hadnot.turning import turning_sets
from hadnot.wishes import cheapest
from hadnot.worths import Worth
from helpers import VALUES, Knots, choices_of, many_choices, random_worths, rows_of, same, worth_of
from test_turning import turning_by_hand
from test_wishes import cheapest_by_hand, random_prices

DEEP = ((((((((None, 1), True), "a"), 0), "b"), -1), 2), "told")
ODD = (None, True, False, 0, 1, -1, 10 ** 300, -10 ** 300, "", "a", "told", "show", "zz zz", (), (1,), ("a", 1), DEEP,
       [], [("a", 1)], {}, {"a": ()}, {"x": {"a": 1}}, ({"a": 1},))


def changed(value, more=ODD):
    """What comes of a value by one small change in it."""
    if isinstance(value, tuple):
        yield list(value)
        yield (*value, *value[-1:])
        for at, part in enumerate(value):
            yield value[:at] + value[at + 1:]
            yield value[:at] + (part, part) + value[at + 1:]
            if at:
                yield value[:at - 1] + (part, value[at - 1]) + value[at + 1:]
            for other in (*changed(part, more), *more):
                yield value[:at] + (other,) + value[at + 1:]
        for other in more:
            yield (*value, other)
            yield (other, *value)
    elif isinstance(value, dict):
        yield tuple(value.items())
        for key in value:
            yield {name: value[name] for name in value if name != key}
            yield {(name + "x" if name == key else name): value[name] for name in value}
            for other in (*changed(value[key], more), *more):
                yield {**value, key: other}
        for key in ("a", "b", "c", "d", "e", "z", "", "a.1"):
            yield {**value, key: ()}
            yield {**value, key: (("a", 1),)}
    elif isinstance(value, bool):
        yield int(value)
    elif isinstance(value, int):
        yield from (value + 1, value - 1, -value, str(value), bool(value), (value,))


def all_pairs(choices):
    return tuple((name, option) for name in choices.names for option in range(choices[name]))


def subsets(names):
    return [some for many in range(len(names) + 1) for some in itertools.combinations(names, many)]


def alike(one, other):
    """Whether two values are equal, with the same kinds throughout."""
    if isinstance(one, dict) and isinstance(other, dict):
        return set(one) == set(other) and all(alike(one[key], other[key]) for key in one)
    if isinstance(one, tuple) and isinstance(other, tuple):
        return len(one) == len(other) and all(alike(*pair) for pair in zip(one, other))
    return type(one) is type(other) and one == other


class ByHand:
    """The definitions, gone through in all worlds."""

    def __init__(self, worth, standing):
        self.worth, self.standing = worth, standing
        self.names = worth.choices.names
        self.rows = rows_of(worth, standing)
        self.answer = worth(standing)
        self.turned = [pairs for pairs, value in self.rows if not same(value, self.answer)]
        self.turning = turning_by_hand(worth, standing)

    def is_free(self, names):
        return not any({name for name, _ in pairs} <= set(names) for pairs in self.turned)

    def are_rows(self, worlds, free):
        """Whether from each name there is a row of pairs, in it and a free set, that turns the answer."""
        return all(any(alike(pairs, row) for row in self.turned)
                   and {other for other, _ in pairs} <= {name, *free} for name, pairs in worlds.items())

    def turning_holds(self, pairs):
        return any(alike(pairs, row) for row in self.turning)

    def support_holds(self, pair, pairs):
        right = []
        for row, value in self.rows:
            if pair[0] not in dict(row) and same(value, self.answer):
                if not same(self.worth({**self.standing, **dict(row), pair[0]: pair[1]}), self.answer):
                    right.append(row)
        return not right if pairs is None else any(alike(pairs, row) for row in right)

    def price_holds(self, prices, price, paper):
        nodes = self.worth.nodes
        if type(paper) is not tuple or len(paper) != len(nodes):
            return False
        if not all(number is None or type(number) is int and number >= 0 for number in paper):
            return False
        for node, number in zip(nodes, paper):
            if node == ("truth", True) and number != 0:
                return False
            if isinstance(node[1], tuple):
                for option, lower in enumerate(node[1]):
                    cost = 0
                    if option != self.standing[node[0]]:
                        cost = prices[node[0]][option] if node[0] in prices else 1
                    if paper[lower] is not None and (number is None or number > paper[lower] + cost):
                        return False
        return paper[-1] is None or paper[-1] >= price

    def is_some(self, names, among):
        return type(names) is tuple and any(alike(names, tuple(name for name in self.names if name in some))
                                            for some in [[name for name in among if name in names]])

    def free_holds(self, names, worlds):
        if not self.is_some(names, self.names) or not self.is_free(names):
            return False
        others = [name for name in self.names if name not in names]
        return type(worlds) is dict and set(worlds) == set(others) and self.are_rows(worlds, names)

    def shown_holds(self, seen, told):
        if self.is_free([name for name in self.names if name not in seen]):
            return alike(told, ("told", self.answer))
        if type(told) is not tuple or len(told) != 3 or not alike(told[0], "show"):
            return False
        _, names, worlds = told
        if not self.is_some(names, self.worth.depends) or type(worlds) is not dict or set(worlds) != set(names):
            return False
        # The worlds that agree on what is seen and on other names, looked for as [36] tells them, name by name.
        right = {name: self.agreeing((*seen, *[other for other in names if other != name])) for name in names}
        return not self.agreeing((*seen, *names)) and all(any(alike(worlds[name], row) for row in right[name]) for name in names)

    def agreeing(self, names):
        """The rows of pairs of the worlds that agree on some choices, and have another value."""
        return [pairs for pairs in self.turned if not {name for name, _ in pairs} & set(names)]


class PapersTest(unittest.TestCase):
    def check(self, got, wanted, paper):
        self.assertIs(got, wanted, paper)
        self.counts[wanted] += 1

    def setUp(self):
        self.counts = {True: 0, False: 0}

    def test_turning(self):
        for worth, standing in random_worths(60, 11):
            by_hand = ByHand(worth, standing)
            for pairs in by_hand.turning[:3]:
                self.assertIs(turning_holds(worth, standing, pairs), True)
                for other in changed(pairs, (*ODD, *all_pairs(worth.choices))):
                    self.check(turning_holds(worth, standing, other), by_hand.turning_holds(other), other)
            for other in (*[pairs for pairs, _ in by_hand.rows], *ODD):
                self.check(turning_holds(worth, standing, other), by_hand.turning_holds(other), other)
        self.assertGreater(min(self.counts.values()), 60)

    def test_turning_with_other_options(self):
        """All options of the lesser sets count."""
        choices = choices_of(a=3, b=2)
        table = {(0, 0): 0, (1, 0): 0, (2, 0): 1, (0, 1): 0, (1, 1): 1, (2, 1): 0}
        worth = worth_of(choices, lambda world: table[world["a"], world["b"]])
        self.assertIs(turning_holds(worth, {}, (("a", 1), ("b", 1))), False)
        self.assertIs(turning_holds(worth, {}, (("a", 2),)), True)

    def test_support(self):
        for worth, standing in random_worths(45, 12):
            by_hand = ByHand(worth, standing)
            for pair in all_pairs(worth.choices):
                if pair[1] != standing[pair[0]]:
                    found = support(worth, standing, pair)
                    self.assertIs(support_holds(worth, standing, pair, found), True)
                    for other in (*changed(found, (*ODD, *all_pairs(worth.choices))), *ODD, *[row for row, _ in by_hand.rows]):
                        self.check(support_holds(worth, standing, pair, other), by_hand.support_holds(pair, other), other)
        self.assertGreater(min(self.counts.values()), 100)

    def test_prices(self):
        rows = random.Random(2)
        for worth, standing in random_worths(90, 13):
            by_hand = ByHand(worth, standing)
            prices = random_prices(worth.choices, rows)
            paper = price_paper(worth, standing, prices)
            best = cheapest(worth, standing, prices)
            self.assertEqual(paper[-1], None if best is None else best[0])
            for price in (-1, 0, 10 ** 300) if best is None else (-5, best[0] - 1, best[0]):
                self.assertIs(price_holds(worth, standing, prices, price, paper), True)
            price = 3 if best is None else best[0]
            for other in (*changed(paper, ODD[:9]), *ODD):
                for least in (price, price - 1, price + 1, 0):
                    holds = price_holds(worth, standing, prices, least, other)
                    self.check(holds, by_hand.price_holds(prices, least, other), (worth.nodes, prices, other))
                    # Each paper that holds is true.
                    if holds and best is not None:
                        self.assertGreaterEqual(best[0], least)
        self.assertGreater(min(self.counts.values()), 500)

    def test_price_paper(self):
        rows = random.Random(3)
        for worth, standing in random_worths(80, 14):
            prices = random_prices(worth.choices, rows)
            paper = price_paper(worth, standing, prices)
            self.assertIsInstance(paper, tuple)
            self.assertEqual(len(paper), len(worth))
            for node, number in zip(worth.nodes, paper):
                if not isinstance(node[1], tuple):
                    self.assertEqual(repr(number), "0" if node[1] is True else "None")
            best = cheapest_by_hand(worth, standing, prices)
            self.assertEqual(repr(paper[-1]), "None" if best is None else repr(best[0]))
        choices = choices_of(a=2, b=3)
        worth = worth_of(choices, lambda world: world["a"] == 1 and world["b"] == 2)
        self.assertEqual(worth.depends, ("a", "b"))
        self.assertEqual(price_paper(worth, {}, {"b": [9, 9, 4]}), (None, 0, 4, 5))
        self.assertEqual(price_paper(worth, {"b": 2}, {"b": [9, 9, 4]}), (None, 0, 0, 1))
        self.assertEqual(price_paper(Worth(choices, True), {}, {}), (0,))
        self.assertEqual(price_paper(Worth(choices, 1), {}, {}), (None,))

    def test_price_bounds(self):
        """A number may be less than the least price; None only where no way leads to True."""
        choices = choices_of(a=2, b=2)
        worth = worth_of(choices, lambda world: world["a"] == 1 and world["b"] == 1)
        prices = {"a": (0, 3), "b": (0, 4)}
        self.assertEqual(worth.nodes[:2], (("truth", False), ("truth", True)))
        for paper, most in (((None, 0, 4, 7), 7), ((None, 0, 4, 6), 6), ((None, 0, 3, 6), 6), ((None, 0, 0, 3), 3),
                            ((0, 0, 0, 0), 0), ((10 ** 300, 0, 4, 7), 7), ((7, 0, 4, 7), 7), ((1, 0, 1, 1), 1)):
            self.assertIs(price_holds(worth, {}, prices, most, paper), True)
            self.assertIs(price_holds(worth, {}, prices, most + 1, paper), False)
        for paper in ((None, 0, 4, 8), (None, 0, 5, 7), (None, 0, None, 7), (None, 0, 4, None), (0, 0, 4, 7), (None, 1, 4, 7),
                      (None, None, 4, 7), (None, 0, 3, 7), (None, 0, 4), (None, 0, 4, 7, 7), (None, 0, 4, -1), (None, False, 4, 7)):
            self.assertIs(price_holds(worth, {}, prices, 0, paper), False)
        # Above what leads nowhere any number may stand.
        never = worth_of(choices, lambda world: world["a"] + world["b"])
        for paper in ((None,) * len(never), (5,) * len(never), (None,) * (len(never) - 1) + (10 ** 300,)):
            self.assertIs(price_holds(never, {}, prices, 5, paper), True)

    def test_free(self):
        for worth, standing in random_worths(60, 15):
            by_hand = ByHand(worth, standing)
            names, worlds = free_set(worth, standing)
            self.assertIs(free_holds(worth, standing, names, worlds), True)
            for other in (*changed(names, (*ODD[:9], *worth.choices.names)), *ODD):
                self.check(free_holds(worth, standing, other, worlds), by_hand.free_holds(other, worlds), other)
            for other in (*changed(worlds, (*ODD, *all_pairs(worth.choices))), *ODD, {}):
                self.check(free_holds(worth, standing, names, other), by_hand.free_holds(names, other), other)
            # Any rows of pairs that turn the answer will do, not just the first ones.
            for pairs in by_hand.turned:
                for name in worlds:
                    other = {**worlds, name: pairs}
                    self.check(free_holds(worth, standing, names, other), by_hand.free_holds(names, other), other)
        self.assertGreater(min(self.counts.values()), 300)

    def test_all_sets(self):
        """Each set of choices, with the first rows of pairs that turn the answer with it."""
        for worth, standing in random_worths(60, 18):
            by_hand = ByHand(worth, standing)
            for names in subsets(worth.choices.names):
                worlds = {name: next((pairs for pairs in by_hand.turned if {other for other, _ in pairs} <= {name, *names}), ())
                          for name in worth.choices.names if name not in names}
                self.check(free_holds(worth, standing, names, worlds), by_hand.free_holds(names, worlds), (names, worlds))
        self.assertGreater(min(self.counts.values()), 60)

    def test_all_sets_to_show(self):
        """Each set of choices, whatever is seen, with worlds that agree on what is seen and with others that do not."""
        with_seen = 0
        for worth, standing in random_worths(60, 19):
            by_hand = ByHand(worth, standing)
            for seen, names in itertools.product(subsets(worth.choices.names), repeat=2):
                for besides in ((), seen):
                    worlds = {name: next(iter(by_hand.agreeing({*names, *besides} - {name})), ()) for name in names}
                    told = ("show", names, worlds)
                    holds = shown_holds(worth, standing, seen, told)
                    self.check(holds, by_hand.shown_holds(seen, told), (worth.nodes, standing, seen, told))
                    if set(seen) & set(names):
                        self.assertIs(holds, False)
                        with_seen += () not in worlds.values() and not by_hand.is_free(set(worth.choices.names) - set(seen))
        self.assertGreater(min(self.counts.values()), 60)
        self.assertGreater(with_seen, 60)

    def test_seen_choices_are_not_to_be_shown(self):
        """No set with a seen choice holds, though the answer turns with it alone; the set without it does."""
        choices = choices_of(a=2, b=3, c=2)
        worth = worth_of(choices, lambda world: world["a"] == 1 or world["b"] == 1 or world["c"] == 1)
        rows = {"a": (("a", 1),), "b": (("b", 1),), "c": (("c", 1),)}
        for seen in itertools.chain.from_iterable(itertools.product("abc", repeat=many) for many in range(4)):
            for names in subsets(("a", "b", "c")):
                told = ("show", names, {name: rows[name] for name in names})
                self.assertIs(shown_holds(worth, {}, seen, told), bool(names) and {*seen, *names} == {"a", "b", "c"}
                              and not set(seen) & set(names))
                self.assertIs(shown_holds(worth, {}, list(seen), told), shown_holds(worth, {}, seen, told))
        # Worlds that show why each name is told do not help where one of the names is seen.
        for pairs in ((("a", 1),), (("b", 1),), (("c", 1),), (("a", 1), ("c", 1)), (("b", 1), ("c", 1)), ()):
            told = ("show", ("a", "b", "c"), {**rows, "a": pairs})
            self.assertIs(shown_holds(worth, {}, ("a",), told), False)
        self.assertIs(shown_holds(worth, {"b": 2}, ("b",), ("show", ("a", "b", "c"), rows)), False)
        self.assertIs(shown_holds(worth, {"b": 2}, ("b",), ("show", ("a", "c"), {name: rows[name] for name in "ac"})), True)
        self.assertIs(shown_holds(worth, {"b": 2}, (), ("show", ("a", "b", "c"), rows)), True)

    def test_other_free_sets(self):
        """Sets that are made in another order are as good."""
        rows = random.Random(4)
        for worth, standing in random_worths(60, 16):
            by_hand = ByHand(worth, standing)
            names = []
            for name in rows.sample(worth.choices.names, len(worth.choices)):
                if by_hand.is_free([*names, name]):
                    names.append(name)
            names = tuple(name for name in worth.choices.names if name in names)
            worlds = {name: next(pairs for pairs in by_hand.turned[::-1] if {other for other, _ in pairs} <= {name, *names})
                      for name in worth.choices.names if name not in names}
            self.assertIs(free_holds(worth, standing, names, worlds), True)
            for at in range(len(names)):
                fewer = names[:at] + names[at + 1:]
                self.assertIs(free_holds(worth, standing, fewer, {**worlds, names[at]: ()}), False)
                self.assertIs(free_holds(worth, standing, fewer, worlds), False)

    def test_shown(self):
        rows = random.Random(5)
        for worth, standing in random_worths(60, 17):
            by_hand = ByHand(worth, standing)
            names = worth.choices.names
            for seen in ((), tuple(rows.choice(names) for _ in range(2)) if names else (), names[:1]):
                told = to_show(worth, standing, seen)
                self.assertIs(shown_holds(worth, standing, seen, told), True)
                others = [*changed(told, (*ODD, *names)), *ODD, ("told", by_hand.answer), ("show", (), {}),
                          ("show", names, {}), *[("told", value) for value in VALUES]]
                if told[0] == "show":
                    others.extend(("show", told[1], {**told[2], name: pairs}) for pairs in by_hand.turned for name in told[1])
                    others.extend((*told[:2], other) for other in changed(told[2], (*ODD[:9], *all_pairs(worth.choices))))
                for other in others:
                    self.check(shown_holds(worth, standing, seen, other), by_hand.shown_holds(seen, other), other)
        self.assertGreater(min(self.counts.values()), 300)

    def test_other_sets_to_show(self):
        choices = choices_of(a=2, b=2, c=2)
        worth = worth_of(choices, lambda world: world["a"] == 1 and world["b"] == 1)
        for name, other in (("a", "b"), ("b", "a")):
            told = ("show", (name,), {name: (("a", 1), ("b", 1))})
            self.assertIs(shown_holds(worth, {}, (), told), True)
            self.assertIs(shown_holds(worth, {}, (other,), told), False)
            # What does not count may differ in the worlds, but is not to be shown.
            told = ("show", (name,), {name: (("a", 1), ("b", 1), ("c", 1))})
            self.assertIs(shown_holds(worth, {}, (), told), True)
            self.assertIs(shown_holds(worth, {}, ("c",), told), False)
            told = ("show", (name, "c"), {name: (("a", 1), ("b", 1)), "c": (("a", 1), ("b", 1), ("c", 1))})
            self.assertIs(shown_holds(worth, {}, (), told), False)
        both = ("show", ("a", "b"), {"a": (("a", 1), ("b", 1)), "b": (("a", 1), ("b", 1))})
        self.assertIs(shown_holds(worth, {}, (), both), False)
        self.assertIs(shown_holds(worth, {"a": 1, "b": 1}, (), ("show", ("a", "b"), {"a": (("a", 0),), "b": (("b", 0),)})), True)
        self.assertIs(shown_holds(worth, {}, (), ("told", False)), False)
        self.assertIs(shown_holds(worth, {}, ("b",), ("told", False)), True)
        self.assertIs(shown_holds(worth, {}, ("b",), ("told", 0)), False)

    def test_unknown_names(self):
        worth = Worth.by(choices_of(a=2, b=2), "a", (0, 1))
        for seen, name in ((("x",), "x"), (["a", "y", "x"], "y"), (("b", "x", "x"), "x")):
            for told in (("told", 0), None, ("show", (), {}), DEEP, {}):
                with self.assertRaises(UnknownName) as caught:
                    shown_holds(worth, {}, seen, told)
                self.assertEqual(caught.exception.name, name)

    def test_without_choices(self):
        worth = Worth(Choices(), True)
        self.assertIs(turning_holds(worth, {}, ()), False)
        self.assertEqual(price_paper(worth, {}, {}), (0,))
        self.assertIs(price_holds(worth, {}, {}, 0, (0,)), True)
        self.assertIs(price_holds(worth, {}, {}, 1, (0,)), False)
        self.assertIs(free_holds(worth, {}, (), {}), True)
        self.assertIs(shown_holds(worth, {}, (), ("told", True)), True)
        for odd in ODD:
            self.assertIs(turning_holds(worth, {}, odd), False)
            self.assertIs(shown_holds(worth, {}, (), odd), False)
            self.assertIs(free_holds(worth, {}, odd, {}), alike(odd, ()))
            self.assertIs(free_holds(worth, {}, (), odd), alike(odd, {}))

    def test_knots(self):
        for seed in range(5):
            knots = Knots(seed, (4,) * 10, (0, 0, 0, 0, 0, 1))
            total, standing = knots.joined("+"), knots.standing
            truth = total.is_value(total(standing))
            for worth in (total, truth):
                names, worlds = free_set(worth, standing)
                self.assertIs(free_holds(worth, standing, names, worlds), True)
                self.assertIs(free_holds(worth, standing, names[1:], {**worlds, names[0]: ()}), False)
                seen = knots.choices.names[::3]
                told = to_show(worth, standing, seen)
                self.assertIs(shown_holds(worth, standing, seen, told), True)
                self.assertIs(shown_holds(worth, standing, (), ("told", worth(standing))), False)
            for prices in (knots.prices, {}):
                paper = price_paper(~truth, standing, prices)
                best = cheapest(~truth, standing, prices)
                self.assertEqual(paper[-1], best[0])
                self.assertIs(price_holds(~truth, standing, prices, best[0], paper), True)
                self.assertIs(price_holds(~truth, standing, prices, best[0] + 1, paper), False)
            small = knots.spread[3]
            for pairs in turning_sets(small, standing):
                self.assertIs(turning_holds(small, standing, pairs), True)
                self.assertIs(turning_holds(small, standing, (("k0c0", 0 if standing["k0c0"] else 1), *pairs)), False)

    def test_limits(self):
        """Worths of 300 nodes over forty choices, and papers that turn many pairs."""
        choices = many_choices(40)
        total = Worth(choices, 0)
        for name in choices.names[:22]:
            total = total + Worth.by(choices, name, (0, 1))
        least = ~total.below(Worth(choices, 14))
        first = tuple((name, 1) for name in choices.names[:14])
        self.assertIs(turning_holds(least, {}, first), True)
        self.assertIs(turning_holds(least, {}, first[1:]), False)
        self.assertIs(turning_holds(least, {}, (*first, ("c14", 1))), False)
        self.assertIs(support_holds(least, {}, ("c20", 1), first[1:]), True)
        self.assertIs(support_holds(least, {}, ("c20", 1), first), False)
        self.assertIs(support_holds(least, {}, ("c30", 1), first[1:]), False)
        self.assertIs(support_holds(least, {}, ("c30", 1), None), True)
        self.assertIs(support_holds(least, {}, ["c20", 1], None), False)
        paper = price_paper(least, {}, {"c3": (0, 0)})
        self.assertIs(price_holds(least, {}, {"c3": (0, 0)}, 13, paper), True)
        self.assertIs(price_holds(least, {}, {}, 13, paper), True)
        self.assertIs(price_holds(least, {}, {"c3": (0, 0), "c4": [0, 0]}, 12, paper), False)

    def test_arguments(self):
        worth = Worth.by(choices_of(a=2, b=2), "b", (False, True))
        standing, prices, pairs, worlds = {"a": 1}, {"b": [0, 7]}, (("b", 1),), {"b": (("b", 1),)}
        self.assertIs(turning_holds(worth=worth, standing=standing, pairs=pairs), True)
        self.assertIs(support_holds(worth=worth, standing=standing, pair=["b", 1], pairs=()), True)
        self.assertEqual(price_paper(worth=worth, standing=standing, prices=prices), (None, 0, 7))
        self.assertIs(price_holds(worth=worth, standing=standing, prices=prices, price=7, paper=(None, 0, 7)), True)
        self.assertIs(free_holds(worth=worth, standing=standing, names=("a",), worlds=worlds), True)
        self.assertIs(shown_holds(worth=worth, standing=standing, seen=["a", "a"], told=("show", ("b",), worlds)), True)
        self.assertEqual((standing, prices, worlds), ({"a": 1}, {"b": [0, 7]}, {"b": (("b", 1),)}))


if __name__ == "__main__":
    unittest.main()
