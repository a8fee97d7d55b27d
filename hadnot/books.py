"""Books: a day that is exchanged, and what it was before."""

from hadnot.changes import changes
from hadnot.lifts import Lift
from hadnot.plain import run


class Book:
    """A day, its lift, and the days before the changes that can be undone."""

    def __init__(self, day):
        self.day = day
        self.lift = Lift(day)
        # Lifts are large: those of days before are made again.
        self.before = ()

    def change(self, day):
        """Put another day in the place of this one; the changes of the lifts."""
        lift = Lift(day)
        told = changes(self.lift, lift)
        self.before = (*self.before, self.day)
        self.day = day
        self.lift = lift
        return told

    def undo(self):
        """Go back to the day before the last change; whether there was one."""
        if not self.before:
            return False
        self.day = self.before[-1]
        self.lift = Lift(self.day)
        self.before = self.before[:-1]
        return True

    def __len__(self):
        return len(self.before)

    def view(self, world):
        """The view of a world."""
        return run(self.day, world)

    def tried(self):
        """A context in which the book is changed on trial."""
        return Trial(self)

    def in_trial(self, work):
        """What a function returns to which a trial is passed, within this trial."""
        with self.tried() as trial:
            return work(trial)


class Trial:
    """A context behind which a book is as it was, unless the trial is kept."""

    def __init__(self, book):
        self.book = book
        # What gets back what the book had when the block was entered.
        self.holder = book

    def __enter__(self):
        self.day = self.book.day
        self.lift = self.book.lift
        self.before = self.book.before
        return self

    def keep(self):
        """Let the book be as it is when the block is left."""
        # A kept trial gives it back to itself: where a block is left, nothing can be asked.
        self.holder = self

    def __exit__(self, kind, value, trace):
        self.holder.day = self.day
        self.holder.lift = self.lift
        self.holder.before = self.before
