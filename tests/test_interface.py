"""The interface: names, arguments, and the files and classes in which they are defined."""

import importlib
import inspect
import unittest

FUNCTIONS = {
    "values": ("is_name(value)", "is_value(value)", "is_same(one, other)", "in_order(values)", "show(value)"),
    "daytexts": ("show_day(day)", "read_day(text)"),
    "plain": ("run(day, world)",),
    "turning": ("turning_sets(worth, standing)", "count_turning(worth, standing)"),
    "supports": ("support(worth, standing, pair)",),
    "shares": ("shares(worth, start, end)",),
    "wishes": ("cheapest(worth, standing, prices)",),
    "hidden": ("free_set(worth, standing)", "to_show(worth, standing, seen)"),
    "papers": ("turning_holds(worth, standing, pairs)", "support_holds(worth, standing, pair, pairs)",
               "price_paper(worth, standing, prices)", "price_holds(worth, standing, prices, price, paper)",
               "free_holds(worth, standing, names, worlds)", "shown_holds(worth, standing, seen, told)"),
    "opened": ("opened(day, deed)", "closed(day, deed)"),
    "meeting": ("met(one, other, name)",),
    "changes": ("changes(one, other)",),
    "saytexts": ("show_expression(expression)", "show_saying(saying)", "read_expression(text)", "read_saying(text)"),
}
CLASSES = {
    "ratios.Ratio": ("__init__(self, top, bottom=1)", "__add__(self, other)", "__sub__(self, other)",
                     "__mul__(self, other)", "__neg__(self)", "__eq__(self, other)", "below(self, other)",
                     "__bool__(self)", "__str__(self)", "padded(self, width)"),
    "choices.Choices": ("__init__(self)", "put(self, name, many)", "without(self, name)", "__getitem__(self, name)",
                        "number(self, name)", "__contains__(self, name)", "__len__(self)", "__eq__(self, other)",
                        "full(self, world)", "is_world(self, value)", "worlds(self)"),
    "worths.Worth": ("__init__(self, choices, value)", "by(choices, name, values)", "__call__(self, world)",
                     "__len__(self)", "__eq__(self, other)", "__contains__(self, value)", "count(self, value)",
                     "__getitem__(self, at)", "__str__(self)", "__add__(self, other)", "__sub__(self, other)",
                     "__mul__(self, other)", "__neg__(self)", "least(self, other)", "most(self, other)",
                     "__and__(self, other)", "__or__(self, other)", "__invert__(self)", "below(self, other)",
                     "same(self, other)", "when(self, one, other)", "is_value(self, value)", "limited(self, truth)",
                     "or_else(self, other)", "some(self, name)", "every(self, name)", "put(self, name, other)",
                     "parting(self, other)"),
    "days.Deed": ("__init__(self, name, sayings, choice=None, only=())", "__eq__(self, other)"),
    "days.Day": ("__init__(self)", "with_table(self, name, parts)", "with_choice(self, name, many, *, prices=None)",
                 "stands(self, name, option)", "with_cell(self, name, value, *, choice=None)",
                 "with_row(self, table, key, values, *, only=())", "without_row(self, table, key)",
                 "with_rule(self, name, params, expression)", "without_rule(self, name)",
                 "with_deed(self, deed, at=None)", "with_saying(self, name, option, saying)", "moved(self, name, at)",
                 "without_deed(self, name)", "without_choice(self, name)", "__getitem__(self, name)",
                 "__contains__(self, name)", "__len__(self)", "__eq__(self, other)"),
    "views.View": ("value(self, cell, *, behind=None)", "keys_of(self, table, *, behind=None)",
                   "row_of(self, table, key, *, behind=None)", "__getitem__(self, cell)", "__contains__(self, cell)",
                   "is_there(self, deed)", "done(self, deed)", "refusal(self, deed)", "told(self, deed)",
                   "ask(self, expression, *, behind=None)", "answer(self, question, *, behind=None)"),
    "lifts.Lift": ("__init__(self, day)", "value(self, cell, *, behind=None)", "keys_of(self, table, *, behind=None)",
                   "row_of(self, table, key, *, behind=None)", "__getitem__(self, cell)", "__contains__(self, cell)",
                   "is_there(self, deed)", "done(self, deed)", "refusal(self, deed)", "told(self, deed)",
                   "ask(self, expression, *, behind=None)", "answer(self, question, *, behind=None)"),
    "questions.Found": ("__call__(self, world)", "__len__(self)", "__iter__(self)"),
    "books.Book": ("__init__(self, day)", "change(self, day)", "undo(self)", "__len__(self)", "view(self, world)",
                   "tried(self)", "in_trial(self, work)"),
    "books.Trial": ("__enter__(self)", "__exit__(self, kind, value, trace)", "keep(self)"),
    "desk.Desk": ("__init__(self)", "say(self, command)", "__len__(self)"),
}


class InterfaceTest(unittest.TestCase):
    def test_functions(self):
        for module, wanted in FUNCTIONS.items():
            loaded = importlib.import_module(f"hadnot.{module}")
            for text in wanted:
                function = getattr(loaded, text.partition("(")[0])
                self.assertEqual(f"{function.__name__}{inspect.signature(function)}", text)
                self.assertEqual(function.__module__, loaded.__name__)

    def test_classes(self):
        for place, wanted in CLASSES.items():
            module, name = place.split(".")
            loaded = getattr(importlib.import_module(f"hadnot.{module}"), name)
            self.assertEqual(loaded.__module__, f"hadnot.{module}")
            for text in wanted:
                method = text.partition("(")[0]
                self.assertIn(method, vars(loaded), place)
                self.assertEqual(f"{method}{inspect.signature(getattr(loaded, method))}", text)

    def test_package_is_empty(self):
        package = importlib.import_module("hadnot")
        self.assertTrue(package.__doc__)
