"""What a day is in one world."""

from hadnot.errors import UnknownName, Unready
from hadnot.questions import answered, known_behind, missing_in_question, place_behind
from hadnot.ready import missing_in_expression
from hadnot.scenes import Scene, asked
from hadnot.values import kind_of


class View:
    """The states behind the deeds of a day in one world, and how the deeds ended."""

    def __init__(self, day, world, pages, endings):
        self._day = day
        self._world = world
        # The page of the beginning, then the one behind each deed.
        self._pages = pages
        self._endings = endings

    @property
    def world(self):
        """The full world."""
        return dict(self._world)

    def value(self, cell, *, behind=None):
        """The value of a cell, None if it is not there."""
        return self._pages[place_behind(self._day, behind)].cells.get(cell)

    def __getitem__(self, cell):
        return self.value(cell)

    def __contains__(self, cell):
        return self.value(cell) is not None

    def __iter__(self):
        raise TypeError("views cannot be iterated over")

    def keys_of(self, table, *, behind=None):
        """The keys of the rows of a table."""
        page = self._page_with(table, behind)
        return tuple(page.keys_in_order(table))

    def row_of(self, table, key, *, behind=None):
        """The parts of a row, None if it does not stand."""
        page = self._page_with(table, behind)
        # For Python True is the key 1.
        return page.tables[table].get(key) if kind_of(key) in ("number", "word") else None

    def is_there(self, deed):
        """Whether a deed is there."""
        return self._ending(deed).there

    def done(self, deed):
        """Whether a deed was done."""
        return self._ending(deed).was_done

    def refusal(self, deed):
        """The row and the word with which a deed was refused, or None."""
        return self._ending(deed).fault

    def told(self, deed):
        """The rows that told something, and what."""
        return self._ending(deed).tellings

    def ask(self, expression, *, behind=None):
        """The value of an expression, None if it has a fault."""
        place = place_behind(self._day, behind)
        for name in missing_in_expression(expression, known_behind(self._day, place)):
            raise Unready("", name)
        return asked(expression, self._scene(place), {})

    def answer(self, question, *, behind=None):
        """The answer to a question."""
        place = place_behind(self._day, behind)
        for name in missing_in_question(question, known_behind(self._day, place)):
            raise Unready("", name)
        return answered(question, self._scene(place))

    def _scene(self, place):
        were_done = {name: True for name in self._day.names if self._endings[name].was_done}
        return Scene(self._day, self._world, self._pages[place], were_done)

    def _page_with(self, table, behind):
        page = self._pages[place_behind(self._day, behind)]
        if table not in page.tables:
            raise UnknownName(table)
        return page

    def _ending(self, deed):
        if deed not in self._endings:
            raise UnknownName(deed)
        return self._endings[deed]
