"""Books: a day that is exchanged, and what it was before."""

from hadnot.changes import changes
from hadnot.lifts import Lift
from hadnot.plain import run


class Book:
    """A day, its lift, and the days and lifts before each change that can be undone."""

    def __init__(self, day):
        self.day = day
        self.lift = Lift(day)
        # Pairs of a day and its lift, which a trial keeps: this tuple is exchanged, too.
        self.before = ()

    def change(self, day):
        """Put another day in the place of this one; the changes of the lifts."""
        lift = Lift(day)
        told = changes(self.lift, lift)
        self.before = (*self.before, (self.day, self.lift))
        self.day = day
        self.lift = lift
        return told

    def undo(self):
        """Go back to the day before the last change; whether there was one."""
        if not self.before:
            return False
        self.day, self.lift = self.before[-1]
        self.before = self.before[:-1]
        return True

    def __len__(self):
        return len(self.before)

    def view(self, world):
        """The view of a world."""
        return run(self.day, world)

    def tried(self):
        """A context in which the book is changed on trial."""
        return Trial(self)

    def in_trial(self, work):
        """What a function returns to which a trial is passed, within this trial."""
        with self.tried() as trial:
            return work(trial)


class Trial:
    """A context behind which a book is as it was, unless the trial is kept."""

    def __init__(self, book):
        self.book = book
        self.hold(book)

    def __enter__(self):
        self.hold(self.book)
        return self

    def hold(self, book):
        """Keep what a book has now."""
        self.day = book.day
        self.lift = book.lift
        self.before = book.before

    def keep(self):
        """Let the book be as it is then."""
        self.book = Forgotten()

    def __exit__(self, kind, value, trace):
        # Nothing is asked here: to a book that is kept all this happens elsewhere.
        self.book.day = self.day
        self.book.lift = self.lift
        self.book.before = self.before


class Forgotten:
    """What takes the day of a kept trial, and nobody looks at it."""
