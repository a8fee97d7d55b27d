"""Books and trials ([43], [44])."""

import random
import unittest

from hadnot.books import Book
from hadnot.changes import changes
from hadnot.days import Day, Deed
from hadnot.errors import TooWide, UnknownName
from hadnot.lifts import Lift
from hadnot.plain import run
from hadnot.views import View
from helpers import told_of
from random_days import Maker
from test_changes import edited
from test_days import example
from test_wide import MORE, base


def too_wide():
    return base().with_deed(Deed("go", [[("tell", 1), ("put", "m", ("+", "n", MORE))]]))


class Booked(unittest.TestCase):
    def state(self, book):
        """All that a book tells."""
        self.assertEqual(book.lift.day, book.day)
        return told_of(book.day), len(book), {cell: str(book.lift[cell]) for cell in book.day.all_cells}

    def check_wide(self, work, *args):
        with self.assertRaises(TooWide) as caught:
            work(*args)
        self.assertEqual((caught.exception.deed, caught.exception.row), ("go", 1))


class BookTest(Booked):
    def test_attributes(self):
        day = example()
        book = Book(day)
        self.assertEqual((book.day, len(book)), (day, 0))
        self.assertIsInstance(book.lift, Lift)
        self.assertEqual((book.lift["cash"], book.lift.day), (Lift(day)["cash"], day))
        self.assertIs(book.undo(), False)
        self.assertEqual(Book(day=Day()).day, Day())

    def test_change(self):
        book = Book(example())
        later = example().with_cell("cash", 11)
        self.assertEqual(book.change(later), (("pay", "cash"), ("shop", "cash")))
        self.assertEqual((book.day, len(book), book.lift["cash"]), (later, 1, Lift(later)["cash"]))
        # An equal day is put in its place as well.
        self.assertEqual(book.change(day=example().with_cell("cash", 11)), ())
        self.assertEqual(len(book), 2)
        self.assertEqual([book.undo(), len(book), book.day == later], [True, 1, True])
        self.assertEqual([book.undo(), len(book), book.day == example()], [True, 0, True])
        self.assertEqual([book.undo(), len(book), book.day == example()], [False, 0, True])
        self.assertEqual(book.lift["cash"], Lift(example())["cash"])

    def test_rows_of_changes(self):
        """Changes and undos at random, beside a plain row of days."""
        for seed in range(40):
            maker = Maker(seed)
            day = maker.day(choices=2, deeds=2)
            book, days = Book(day), [day]
            for _ in range(12):
                if maker.likely(0.4):
                    self.assertIs(book.undo(), len(days) > 1)
                    days = days[:-1] or days
                else:
                    days.append(edited(days[-1], maker))
                    self.assertEqual(book.change(days[-1]), changes(Lift(days[-2]), Lift(days[-1])))
                self.assertEqual((book.day, len(book)), (days[-1], len(days) - 1))
                self.assertEqual(book.lift["x"], Lift(days[-1])["x"])
                world = {name: maker.rows.randrange(book.day.choices[name]) for name in book.day.choices.names}
                self.assertEqual(book.view(world)["x"], run(days[-1], world)["x"])

    def test_too_wide(self):
        self.check_wide(Book, too_wide())
        book = Book(example())
        book.change(example().stands("tip", 1))
        before = self.state(book)
        self.check_wide(book.change, too_wide())
        self.assertEqual(self.state(book), before)
        with book.tried() as trial:
            trial.keep()
            self.check_wide(book.change, too_wide())
        self.assertEqual(self.state(book), before)
        with self.assertRaises(TooWide):
            book.in_trial(lambda trial: book.change(too_wide()))
        self.assertEqual(self.state(book), before)

    def test_view(self):
        book = Book(example())
        view = book.view(world={"tip": 1})
        self.assertIsInstance(view, View)
        self.assertEqual((view["cash"], view.world), (6, {"tip": 1, "buy": 0}))
        self.assertEqual(book.view({})["cash"], 10)
        book.change(example().with_cell("cash", 7))
        self.assertEqual((book.view({"tip": 1})["cash"], view["cash"]), (3, 6))

    def test_books_are_apart(self):
        book, other = Book(example()), Book(example())
        book.change(Day())
        self.assertEqual((len(other), other.day), (0, example()))


class TrialTest(Booked):
    def setUp(self):
        self.days = [example().with_cell("cash", at) for at in range(8)]
        self.book = Book(self.days[0])
        self.book.change(self.days[1])

    def test_left(self):
        book = self.book
        before = self.state(book)
        tried = book.tried()
        with tried as trial:
            self.assertIs(trial, tried)
            self.assertEqual(self.state(book), before)
            book.change(self.days[2])
            self.assertEqual((book.day, len(book)), (self.days[2], 2))
        self.assertEqual(self.state(book), before)
        # Also what was undone comes back.
        with book.tried():
            book.undo()
            self.assertFalse(book.undo())
            book.change(self.days[3])
            self.assertEqual((book.day, len(book)), (self.days[3], 1))
        self.assertEqual(self.state(book), before)
        self.assertTrue(book.undo())
        self.assertEqual(book.day, self.days[0])

    def test_kept(self):
        book = self.book
        with book.tried() as trial:
            book.change(self.days[2])
            self.assertIsNone(trial.keep())
            book.change(self.days[3])
            trial.keep()
        self.assertEqual((book.day, len(book), book.lift.day), (self.days[3], 3, self.days[3]))
        self.assertEqual([book.undo(), book.day == self.days[2]], [True, True])
        with book.tried() as trial:
            trial.keep()
            book.undo()
        self.assertEqual((book.day, len(book)), (self.days[1], 1))

    def test_when_entered(self):
        """What the book has when the block is entered counts, not when the trial is made."""
        book = self.book
        trial = book.tried()
        book.change(self.days[2])
        with trial:
            book.change(self.days[3])
        self.assertEqual((book.day, len(book)), (self.days[2], 2))

    def test_errors_go_on(self):
        book = self.book
        before = self.state(book)
        for error in (KeyError("x"), UnknownName("x"), RuntimeError(), KeyboardInterrupt()):
            with self.assertRaises(type(error)) as caught:
                with book.tried():
                    book.change(self.days[2])
                    raise error
            self.assertIs(caught.exception, error)
            self.assertEqual(self.state(book), before)
        with self.assertRaises(ZeroDivisionError):
            with book.tried() as trial:
                book.change(self.days[2])
                trial.keep()
                book.change(self.days[3])
                1 // 0
        self.assertEqual((book.day, len(book)), (self.days[3], 3))

    def test_within_one_another(self):
        for outer in (True, False):
            for inner in (True, False):
                book = Book(self.days[0])
                with book.tried() as first:
                    book.change(self.days[1])
                    with book.tried() as second:
                        book.change(self.days[2])
                        if inner:
                            second.keep()
                        if outer:
                            first.keep()
                    self.assertEqual((book.day, len(book)), (self.days[2], 2) if inner else (self.days[1], 1))
                    book.change(self.days[3])
                wanted = (self.days[3], 3 if inner else 2) if outer else (self.days[0], 0)
                self.assertEqual((book.day, len(book)), wanted)

    def test_rows_of_trials(self):
        """Trials at random, within one another, beside a plain row of days."""

        class Left(Exception):
            pass

        def go(depth, days):
            """Some steps in a block; the days behind it."""
            for _ in range(rows.randrange(1, 5)):
                step = rows.randrange(4)
                if step == 0 and depth < 3:
                    held, fails = list(days), rows.random() < 0.3
                    try:
                        with book.tried() as trial:
                            days = go(depth + 1, days)
                            kept = rows.random() < 0.5
                            if kept:
                                trial.keep()
                            if fails:
                                raise Left()
                    except Left:
                        self.assertTrue(fails)
                    days = days if kept else held
                elif step == 1:
                    self.assertIs(book.undo(), len(days) > 1)
                    days = days[:-1] or days
                else:
                    days = [*days, rows.choice(self.days)]
                    book.change(days[-1])
                self.assertEqual((book.day, len(book), book.lift.day), (days[-1], len(days) - 1, days[-1]))
            return days

        for seed in range(60):
            rows = random.Random(seed)
            book = Book(self.days[0])
            go(0, [self.days[0]])

    def test_in_trial(self):
        book = self.book
        before = self.state(book)

        def leave(trial):
            book.change(self.days[4])
            return "left", len(book)

        def keep(trial):
            book.change(self.days[4])
            trial.keep()
            return None

        def fail(trial):
            book.change(self.days[4])
            raise UnknownName("oh")

        self.assertEqual(book.in_trial(leave), ("left", 2))
        self.assertEqual(self.state(book), before)
        with self.assertRaises(UnknownName) as caught:
            book.in_trial(work=fail)
        self.assertEqual((caught.exception.name, self.state(book)), ("oh", before))
        self.assertIsNone(book.in_trial(work=keep))
        self.assertEqual((book.day, len(book)), (self.days[4], 2))
        # Trials within one another, also of another book.
        other = Book(self.days[0])

        def both(trial):
            book.change(self.days[5])
            other.in_trial(lambda inner: (other.change(self.days[6]), inner.keep()))
            return book.in_trial(lambda inner: (book.change(self.days[7]), inner.keep(), len(book))[-1])

        self.assertEqual(book.in_trial(both), 4)
        self.assertEqual((book.day, len(book)), (self.days[4], 2))
        self.assertEqual((other.day, len(other)), (self.days[6], 1))


if __name__ == "__main__":
    unittest.main()
