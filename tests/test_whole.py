"""What the document promises over the whole program ([1] to [4])."""

import random
import unittest

from hadnot.books import Book
from hadnot.changes import changes
from hadnot.choices import Choices
from hadnot.days import Day, Deed
from hadnot.daytexts import read_day, show_day
from hadnot.desk import Desk
from hadnot.errors import HadnotError, TooWide, UnknownName
from hadnot.hidden import free_set, to_show
from hadnot.lifts import Lift
from hadnot.meeting import met
from hadnot.opened import closed, opened
from hadnot.papers import free_holds, price_holds, price_paper, shown_holds, support_holds, turning_holds
from hadnot.plain import run
from hadnot.ratios import Ratio
from hadnot.saytexts import read_expression, read_saying, show_expression, show_saying
from hadnot.shares import shares
from hadnot.supports import support
from hadnot.turning import count_turning, turning_sets
from hadnot.values import in_order, is_name, is_same, is_value, show
from hadnot.wishes import cheapest
from hadnot.worths import Worth
from comparing import Comparing
from helpers import all_worlds, choices_of, told_of
from random_days import CELLS, Maker
from test_days import example
from test_hidden import ByHand
from test_shares import shares_by_hand, told as shares_told
from test_turning import support_by_hand, turning_by_hand
from test_wishes import cheapest_by_hand


class EditsTest(Comparing):
    """Rows of edits at random, of all kinds."""

    def edit(self, maker, book):
        """Another day that comes of that of a book by one edit."""
        day = book.day
        names = [name for name in day.choices.names if "." not in name]
        name = maker.pick(day.names)
        deed = day[name]
        maker.options = {choice: day.choices[choice] for choice in day.choices.names}
        maker.rules = {rule: len(params) for rule, params, _ in day.rules}
        edit = maker.pick(("cell", "cell", "row", "stands", "saying", "saying", "moved", "deed", "take", "open", "open", "close", "met"))
        maker.deeds = [other for other in day.names[:day.names.index(name)]]
        if edit == "cell":
            choice = maker.pick(day.choices.names)
            values = [maker.value() for _ in range(day.choices[choice])]
            return day.with_cell(maker.pick(CELLS), values, choice=choice)
        if edit == "row":
            return day.with_row("t", maker.pick((0, 1, "k")), [maker.value(), maker.value()], only=maker.only())
        if edit == "stands":
            return day.stands(*maker.pair())
        if edit == "saying":
            option = 0 if deed.choice is None else maker.rows.randrange(day.choices[deed.choice])
            return day.with_saying(name, option, maker.saying(2, 4))
        if edit == "moved":
            return day.moved(name, maker.rows.randrange(len(day)))
        if edit == "deed":
            choice = maker.pick(day.choices.names) if maker.likely(0.5) else None
            maker.deeds = list(day.names)
            sayings = [maker.saying(1, 3) for _ in range(1 if choice is None else day.choices[choice])]
            return day.with_deed(Deed(f"e{len(book)}", sayings, choice, maker.only()))
        if edit == "take":
            return day.without_deed(name) if len(day) > 2 else day
        if edit == "open":
            return opened(day, name)
        if edit == "close":
            return closed(day, maker.pick([other.name for other in day.deeds if other.opened is not None] or [name]))
        other = Book(day).day.with_deed(Deed(f"m{len(book)}", [maker.saying(1, 3)]))
        return met(day.with_deed(Deed(f"o{len(book)}", [maker.saying(1, 2)])), other, f"w{len(names)}x{len(book)}")

    def test_edits(self):
        rows, compared, kinds = random.Random(11), 0, set()
        for seed in range(40):
            maker = Maker(seed)
            book = Book(maker.day(choices=3, deeds=3))
            for _ in range(12):
                before = told_of(book.day), len(book)
                try:
                    told = book.change(self.edit(maker, book))
                except (HadnotError, UnknownName) as error:
                    kinds.add(type(error).__name__)
                    self.assertEqual((told_of(book.day), len(book)), before)
                    continue
                self.assertIsInstance(told, tuple)
            day = book.day
            worlds = [{name: rows.randrange(day.choices[name]) for name in day.choices.names} for _ in range(12)]
            views = self.compare(day, book.lift, worlds)
            maker.options = {choice: day.choices[choice] for choice in day.choices.names}
            maker.rules = {rule: len(params) for rule, params, _ in day.rules}
            try:
                for behind in ("", day.names[0], None):
                    self.ask(maker, book.lift, worlds, views, behind)
            except TooWide:
                continue
            compared += 1
        self.assertGreater(compared, 30)
        self.assertLessEqual({"Opened", "NotOpen", "Unready"}, kinds)

    def test_texts(self):
        """Days that are read back are equal, and run alike."""
        rows = random.Random(12)
        for seed in range(40):
            day = Maker(seed).day(choices=5, deeds=4)
            again = read_day(show_day(day))
            self.assertEqual(again, day)
            self.assertEqual(changes(Lift(day), Lift(again)), ())
            for _ in range(5):
                world = {name: rows.randrange(day.choices[name]) for name in day.choices.names}
                view, wanted = run(again, world), run(day, world)
                for name in day.names:
                    self.alike([view.told(name), view.refusal(name), view.done(name)],
                               [wanted.told(name), wanted.refusal(name), wanted.done(name)])
                self.alike([view[cell] for cell in CELLS], [wanted[cell] for cell in CELLS])


class AnswersTest(unittest.TestCase):
    """All that is told of the worths of lifts, against all worlds."""

    def test_answers(self):
        seen = {"turning": 0, "support": 0, "never": 0, "show": 0}
        for seed in range(60):
            maker = Maker(seed)
            day = maker.day(choices=3, deeds=2)
            for name in day.choices.names:
                day = day.stands(name, maker.rows.randrange(day.choices[name]))
            name = maker.pick(day.names)
            if len(day[name].sayings[0 if day[name].choice is None else day.standing[day[name].choice]]) <= 3:
                larger = opened(day, name)
                day = larger if len(larger.choices) <= 7 else day
            lift, standing = Lift(day), day.standing
            worths = [lift["x"], lift.done("d1"), lift.ask(maker.truth(2)), lift.ask(("<", "x", "y")), lift.refusal("d0")[1]]
            for worth in worths:
                self.check(worth, standing, maker, seen)
        self.assertGreater(min(seen.values()), 50)

    def check(self, worth, standing, maker, seen):
        names = worth.choices.names
        sets = turning_by_hand(worth, standing)
        self.assertEqual((list(turning_sets(worth, standing)), count_turning(worth, standing)), (sets, len(sets)))
        self.assertTrue(all(turning_holds(worth, standing, pairs) is True for pairs in sets))
        for name in names[:2]:
            pair = (name, 1 if standing[name] == 0 else 0)
            found = support(worth, standing, pair)
            self.assertEqual(found, support_by_hand(worth, standing, pair))
            self.assertIs(support_holds(worth, standing, pair, found), True)
            seen["support"] += found is not None
        best = cheapest(worth, standing, {})
        self.assertEqual(best, cheapest_by_hand(worth, standing, {}))
        paper = price_paper(worth, standing, {})
        self.assertIs(price_holds(worth, standing, {}, 0 if best is None else best[0], paper), True)
        self.assertIs(price_holds(worth, standing, {}, 1 if best is None else best[0] + 1, paper), best is None)
        by_hand = ByHand(worth, standing)
        self.assertEqual(free_set(worth, standing), by_hand.free_set())
        self.assertIs(free_holds(worth, standing, *by_hand.free_set()), True)
        shown = to_show(worth, standing, names[:1])
        self.assertEqual(repr(shown), repr(by_hand.to_show(names[:1])))
        self.assertIs(shown_holds(worth, standing, names[:1], shown), True)
        end = {name: maker.rows.randrange(worth.choices[name]) for name in names}
        if sum(end[name] != standing[name] for name in names) < 6:
            self.assertEqual(shares_told(worth, standing, end), shares_by_hand(worth, standing, end))
        seen["turning"] += len(sets) > 0
        seen["never"] += best is None
        seen["show"] += shown[0] == "show"

    def test_equal_worths(self):
        """Two worths over the same choices are equal just if no world parts them."""
        for seed in range(20):
            day = Maker(seed).day(choices=3, deeds=2)
            lift = Lift(day)
            worths = [lift[cell] for cell in CELLS] + [lift.done(name) for name in day.names] + [
                lift.value(cell, behind=behind) for cell in CELLS for behind in ("", "d0")]
            worlds = all_worlds(day.choices)
            for one in worths:
                for other in worths:
                    alike = all(repr(one(world)) == repr(other(world)) for world in worlds)
                    self.assertEqual((one == other, one.parting(other) is None), (alike, alike))


class ConventionsTest(unittest.TestCase):
    def test_arguments_by_name(self):
        """Every function and method, with all arguments by the names of the document."""
        self.assertEqual([is_name(value="a"), is_value(value="a"), is_same(one=1, other=1), in_order(values=[2, 1]), show(value=1)],
                         [True, True, True, [1, 2], "1"])
        self.assertEqual(str(Ratio(top=4, bottom=6).padded(width=5)), "  2/3")
        self.assertIs(Ratio(1).below(other=Ratio(2)), True)
        choices = Choices().put(name="a", many=2).put(name="b", many=2).put(name="c", many=2).without(name="c")
        self.assertEqual((choices.number(name="b"), choices.full(world={"a": 1}), choices.is_world(value={})), (1, {"a": 1, "b": 0}, True))
        worth = Worth.by(choices=choices, name="a", values=(False, True))
        self.assertEqual((worth(world={"a": 1}), worth.count(value=True)), (True, 2))
        one = Worth(choices=choices, value=1)
        told = [one.least(other=one), one.most(other=one), one.below(other=one), one.same(other=one), worth.when(one=one, other=one),
                one.is_value(value=1), one.limited(truth=worth), one.or_else(other=one), worth.some(name="a"), worth.every(name="a"),
                worth.put(name="a", other=one)]
        self.assertEqual([str(made) for made in told], ["1", "1", "false", "true", "1", "true", "none ; 1 ; a(0 1)", "1", "true", "false", "true"])
        self.assertEqual(worth.parting(other=one), {"a": 0, "b": 0})
        self.assertEqual((show_expression(expression=1), read_expression(text="1"), show_saying(saying=()), read_saying(text="")), ("1", 1, "", ()))
        self.check_days()
        self.check_answers(worth)

    def check_days(self):
        day = Day().with_table(name="t", parts=("p",)).with_choice(name="a", many=2, prices=(1, 2)).stands(name="a", option=1)
        day = day.with_cell(name="x", value=(1, 2), choice="a").with_row(table="t", key=1, values=(1,), only=(("a", 1),))
        day = day.without_row(table="t", key=1).with_rule(name="f", params=(), expression=1).without_rule(name="f")
        deed = Deed(name="d", sayings=((), ()), choice="a", only=(("a", 0),))
        day = day.with_deed(deed=deed, at=0).with_saying(name="d", option=0, saying=(("tell", 1),)).moved(name="d", at=0)
        self.assertEqual(read_day(text=show_day(day=day)), day)
        view, lift = run(day=day, world={"a": 0}), Lift(day=day)
        for told in (view, lift):
            told.value(cell="x", behind="d")
            told.keys_of(table="t", behind="d")
            told.row_of(table="t", key=1, behind="d")
            told.ask(expression=1, behind="d")
            told.answer(question=("rows", (("v", "t"),), 1, ()), behind="d")
            for method in (told.is_there, told.done, told.refusal, told.told):
                method(deed="d")
        self.assertEqual(lift.answer(question=("rows", (("v", "t"),), 1, ()))(world={}), ())
        self.assertEqual(closed(day=opened(day=day.stands(name="a", option=0), deed="d"), deed="d"), day.stands("a", 0))
        self.assertEqual(met(one=day, other=day, name="m").without_deed(name="d").without_choice(name="m").names, ())
        self.assertEqual(changes(one=lift, other=lift), ())
        book = Book(day=day)
        self.assertEqual((book.change(day=day), book.view(world={"a": 1})["x"], book.in_trial(work=lambda trial: 5)), ((), 2, 5))
        self.assertEqual(Desk().say(command="undo"), "nothing")

    def check_answers(self, worth):
        self.assertEqual(list(turning_sets(worth=worth, standing={})), [(("a", 1),)])
        self.assertEqual((count_turning(worth=worth, standing={}), support(worth=worth, standing={}, pair=("a", 1))), (1, ()))
        self.assertEqual(shares(worth=worth, start={}, end={"a": 1}), {"a": Ratio(1)})
        self.assertEqual(cheapest(worth=worth, standing={}, prices={}), (1, (("a", 1),)))
        self.assertEqual(free_set(worth=worth, standing={}), (("b",), {"a": (("a", 1),)}))
        self.assertEqual(to_show(worth=worth, standing={}, seen=("a",)), ("told", False))
        self.assertIs(turning_holds(worth=worth, standing={}, pairs=(("a", 1),)), True)
        self.assertIs(support_holds(worth=worth, standing={}, pair=("a", 1), pairs=()), True)
        paper = price_paper(worth=worth, standing={}, prices={})
        self.assertIs(price_holds(worth=worth, standing={}, prices={}, price=1, paper=paper), True)
        self.assertIs(free_holds(worth=worth, standing={}, names=("b",), worlds={"a": (("a", 1),)}), True)
        self.assertIs(shown_holds(worth=worth, standing={}, seen=(), told=("show", ("a",), {"a": (("a", 1),)})), True)

    def test_only_by_name(self):
        day = example().with_table("t", ("p",))
        view, lift = run(day, {}), Lift(day)
        for work, args in ((day.with_choice, ("c", 2, (1, 1))), (day.with_cell, ("x", (1, 2), "tip")), (day.with_row, ("t", 1, (1,), ())),
                           *[(getattr(told, method), args) for told in (view, lift) for method, args in (
                               ("value", ("cash", None)), ("keys_of", ("t", None)), ("row_of", ("t", 1, None)), ("ask", (1, None)),
                               ("answer", (("rows", (("v", "t"),), 1, ()), None)))]):
            self.assertRaises(TypeError, work, *args)

    def test_lists(self):
        """Lists in the place of tuples, unless any value is accepted."""
        choices = choices_of(a=2, b=2)
        worth = Worth.by(choices, "a", [False, True])
        self.assertEqual(support(worth, {}, ["a", 1]), ())
        self.assertEqual(cheapest(worth, {}, {"a": [0, 7]}), (7, (("a", 1),)))
        self.assertEqual(price_paper(worth, {}, {"a": [0, 7]}), (None, 0, 7))
        self.assertEqual(to_show(worth, {}, ["a", "b"]), ("told", False))
        self.assertIs(support_holds(worth, {}, ["a", 1], ()), True)
        self.assertIs(shown_holds(worth, {}, ["a"], ("told", False)), True)
        for wrong in (turning_holds(worth, {}, [("a", 1)]), turning_holds(worth, {}, (["a", 1],)), support_holds(worth, {}, ("a", 1), []),
                      price_holds(worth, {}, {}, 1, [None, 0, 1]), free_holds(worth, {}, ["b"], {"a": (("a", 1),)}),
                      free_holds(worth, {}, ("b",), {"a": [("a", 1)]}), shown_holds(worth, {}, ["a"], ["told", False])):
            self.assertIs(wrong, False)

    def test_same_calls(self):
        """The same call returns an equal result, whatever was called in between."""
        day = opened(example().stands("buy", 1), "shop")
        lift, standing = Lift(day), day.standing
        calls = [lambda: lift["cash"], lambda: lift.ask(("<", "cash", 7)), lambda: lift.told("shop"), lambda: lift.refusal("shop"),
                 lambda: free_set(lift["cash"], standing), lambda: to_show(lift["cash"], standing, ()), lambda: day.prices,
                 lambda: cheapest(lift.ask(("<", "cash", 7)), standing, {}), lambda: day.standing, lambda: run(day, standing).world,
                 lambda: shares(lift["cash"], standing, {}), lambda: choices_of(a=2).full({}), lambda: price_paper(lift["cash"], standing, {})]
        first = [call() for call in calls]
        kept = [dict(told) if isinstance(told, dict) else told for told in first]
        for told in first:
            if isinstance(told, dict):
                told.clear()
        self.assertEqual([call() for call in calls], kept)

    def test_nothing_that_is_passed_is_changed(self):
        worth = Worth.by(choices_of(a=2, b=3), "b", (False, True, True))
        world, prices, seen, pairs, worlds = {"a": 1}, {"b": [1, 2, 0]}, ["a"], (("b", 1),), {"b": (("b", 2),)}
        for _ in range(2):
            list(turning_sets(worth, world)), count_turning(worth, world), support(worth, world, ["b", 1]), shares(worth, world, {"b": 1})
            cheapest(worth, world, prices), price_paper(worth, world, prices), free_set(worth, world), to_show(worth, world, seen)
            turning_holds(worth, world, pairs), free_holds(worth, world, ("a",), worlds), shown_holds(worth, world, seen, ("show", ("b",), worlds))
            price_holds(worth, world, prices, 0, (None, 0, 0)), support_holds(worth, world, ["b", 1], ()), run(example(), {"tip": 1})
        self.assertEqual((world, prices, seen, pairs, worlds), ({"a": 1}, {"b": [1, 2, 0]}, ["a"], (("b", 1),), {"b": (("b", 2),)}))


class LimitsTest(Comparing):
    def test_many_deeds_in_drawn_worlds(self):
        rows, compared = random.Random(13), 0
        for seed in range(60, 90):
            maker = Maker(seed)
            day = maker.day(choices=12, deeds=40)
            try:
                lift = Lift(day)
            except TooWide:
                continue
            worlds = [{name: rows.randrange(day.choices[name]) for name in day.choices.names} for _ in range(6)]
            views = self.compare(day, lift, worlds)
            try:
                self.ask(maker, lift, worlds, views, None)
            except TooWide:
                pass
            compared += 1
        self.assertGreater(compared, 15)

    def test_large_values(self):
        """Integers of any size, and what is nested, wherever any value may be passed."""
        worth = Worth.by(choices_of(a=2), "a", (False, True))
        deep = 10 ** 5000
        for _ in range(7):
            deep = (deep, "x")
        for value in (10 ** 5000, -10 ** 5000, deep, (deep,), "x" * 3000):
            self.assertIs(value in worth, False)
            self.assertIs(is_value(value), isinstance(value, int))
            self.assertEqual(worth.count(value), 0)
            self.assertIs(turning_holds(worth, {}, value), False)
            self.assertIs(turning_holds(worth, {}, (("a", value),)), False)
            self.assertIs(price_holds(worth, {}, {}, 10 ** 5000, (None, 0, value)), False)
            self.assertIs(price_holds(worth, {}, {}, -10 ** 5000, (value, 0, 1)), value == 10 ** 5000)
            self.assertIs(shown_holds(worth, {}, (), ("told", value)), False)
            self.assertIs(free_holds(worth, {}, (), {"a": value}), False)
            self.assertIs(worth.choices.is_world({"a": value}), False)


if __name__ == "__main__":
    unittest.main()
