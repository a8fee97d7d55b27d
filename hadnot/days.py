"""Days and their deeds."""

from hadnot.choices import Choices
from hadnot.errors import InvalidDeed, InvalidName, Opened, Taken, UnknownName, Unready
from hadnot.phrases import many_rows, with_tuples
from hadnot.ready import unready_things
from hadnot.values import is_name


class Deed:
    """A small program with a saying for each option of its choice."""

    def __init__(self, name, sayings, choice=None, only=()):
        if not is_name(name):
            raise InvalidName(name)
        self.name = name
        self.sayings = with_tuples(sayings)
        self.choice = choice
        self.only = with_tuples(only)
        # The option whose saying is opened.
        self.opened = None

    def __eq__(self, other):
        if not isinstance(other, Deed):
            return False
        if self.name != other.name or self.choice != other.choice or self.only != other.only:
            return False
        return self.sayings == other.sayings and self.opened == other.opened

    def with_opened(self, option):
        """This deed with the saying of an option opened, or with none."""
        made = Deed(self.name, self.sayings, self.choice, self.only)
        made.opened = option
        return made

    def with_only(self, only):
        """This deed in the worlds that have all options of other pairs."""
        return Deed(self.name, self.sayings, self.choice, only).with_opened(self.opened)

    def row_choices(self):
        """The choices of the rows of the saying that is opened, in the order of the rows."""
        if self.opened is None:
            return []
        return [f"{self.name}.{row}" for row in range(many_rows(self.sayings[self.opened]))]


class Day:
    """Tables, choices, what is in the beginning, rules, and a row of deeds."""

    def __init__(self):
        self.choices = Choices()
        self.rules = ()
        self.deeds = ()
        self.names = ()
        # These are never changed: days share them.
        self._standing = {}
        self._prices = {}
        self._tables = {}
        self._cells = {}
        self._rows = {}
        # Of a draft it is not asked whether what it names is there.
        self._draft = False

    @property
    def standing(self):
        """The full world that stands."""
        return dict(self._standing)

    @property
    def prices(self):
        """From each choice to the tuple of its prices."""
        return dict(self._prices)

    @property
    def all_tables(self):
        """From each table to the tuple of its parts."""
        return dict(self._tables)

    @property
    def all_cells(self):
        """From each cell to its value in the beginning, or to its choice and values."""
        return dict(self._cells)

    @property
    def all_rows(self):
        """From each table and key to the values and the pairs in which the row stands."""
        return {row: self._rows[row] for row in self._rows}

    def __getitem__(self, name):
        if name not in self.names:
            raise UnknownName(name)
        return self.deeds[self.names.index(name)]

    def __contains__(self, name):
        return name in self.names

    def __len__(self):
        return len(self.deeds)

    def __iter__(self):
        raise TypeError("days cannot be iterated over")

    def __eq__(self, other):
        if not isinstance(other, Day):
            return False
        if self.choices != other.choices or self._standing != other._standing:
            return False
        if self._prices != other._prices or self._tables != other._tables:
            return False
        if self._cells != other._cells or self._rows != other._rows:
            return False
        return self.rules == other.rules and self.deeds == other.deeds

    def with_table(self, name, parts):
        """The day with one more table."""
        for text in (name, *parts):
            if not is_name(text):
                raise InvalidName(text)
        if name in self._tables:
            raise Taken(name)
        made = self._copy()
        made._tables = {**self._tables, name: tuple(parts)}
        return made._ready()

    def with_choice(self, name, many, *, prices=None):
        """The day with one more choice, which stands at option 0."""
        if not is_name(name):
            raise InvalidName(name)
        made = self._copy()
        made.choices = self.choices.put(name, many)
        made._standing = {**self._standing, name: 0}
        made._prices = {**self._prices, name: (1,) * many if prices is None else tuple(prices)}
        return made._ready()

    def stands(self, name, option):
        """The day with a choice standing at an option."""
        if name not in self.choices:
            raise UnknownName(name)
        made = self._copy()
        made._standing = {**self._standing, name: option}
        return made._ready()

    def without_choice(self, name):
        """The day but for a choice."""
        if name not in self.choices:
            raise UnknownName(name)
        deed = name.partition(".")[0]
        if deed != name and deed in self and self[deed].opened is not None:
            raise Opened(deed)
        made = self._copy()
        made.choices = self.choices.without(name)
        made._standing = without_key(self._standing, name)
        made._prices = without_key(self._prices, name)
        return made._ready()

    def with_cell(self, name, value, *, choice=None):
        """The day with a value of a cell in the beginning, or with one for each option."""
        if not is_name(name):
            raise InvalidName(name)
        if choice is not None and choice not in self.choices:
            raise UnknownName(choice)
        made = self._copy()
        if choice is not None:
            made._cells = {**self._cells, name: (choice, tuple(value))}
        elif value is None:
            made._cells = without_key(self._cells, name)
        else:
            made._cells = {**self._cells, name: value}
        return made._ready()

    def with_row(self, table, key, values, *, only=()):
        """The day with a row of a table in the beginning."""
        if table not in self._tables:
            raise UnknownName(table)
        made = self._copy()
        made._rows = {**self._rows, (table, key): (tuple(values), with_tuples(only))}
        return made._ready()

    def without_row(self, table, key):
        """The day but for a row of a table in the beginning."""
        if table not in self._tables:
            raise UnknownName(table)
        if (table, key) not in self._rows:
            raise UnknownName(key)
        made = self._copy()
        made._rows = without_key(self._rows, (table, key))
        return made._ready()

    def with_rule(self, name, params, expression):
        """The day with one more rule, behind the others."""
        for text in (name, *params):
            if not is_name(text):
                raise InvalidName(text)
        if name in [rule[0] for rule in self.rules]:
            raise Taken(name)
        for at, param in enumerate(params):
            if param in params[:at]:
                raise Taken(param)
        made = self._copy()
        made.rules = (*self.rules, (name, tuple(params), with_tuples(expression)))
        return made._ready()

    def without_rule(self, name):
        """The day but for a rule."""
        if name not in [rule[0] for rule in self.rules]:
            raise UnknownName(name)
        made = self._copy()
        made.rules = tuple([rule for rule in self.rules if rule[0] != name])
        return made._ready()

    def with_deed(self, deed, at=None):
        """The day with one more deed, not opened, at a place or behind all."""
        if deed.name in self.names:
            raise Taken(deed.name)
        many = len(deed.sayings)
        if deed.choice is None:
            many = 1
        elif deed.choice in self.choices:
            many = self.choices[deed.choice]
        if len(deed.sayings) != many:
            raise InvalidDeed(deed.name)
        deeds = list(self.deeds)
        deeds.insert(len(deeds) if at is None else at, deed.with_opened(None))
        return self._with_deeds(deeds)

    def with_saying(self, name, option, saying):
        """The day with another saying of a deed for an option."""
        deed = self._closed_deed(name)
        sayings = list(deed.sayings)
        sayings[option] = saying
        changed = Deed(name, sayings, deed.choice, deed.only)
        return self._with_deeds([changed if other.name == name else other for other in self.deeds])

    def moved(self, name, at):
        """The day with a deed at a place among the others."""
        deed = self[name]
        deeds = [other for other in self.deeds if other.name != name]
        deeds.insert(at, deed)
        return self._with_deeds(deeds)

    def without_deed(self, name):
        """The day but for a deed."""
        self._closed_deed(name)
        return self._with_deeds([deed for deed in self.deeds if deed.name != name])

    def _closed_deed(self, name):
        deed = self[name]
        if deed.opened is not None:
            raise Opened(name)
        return deed

    def _with_deeds(self, deeds):
        made = self._copy()
        made.deeds = tuple(deeds)
        made.names = tuple([deed.name for deed in deeds])
        return made._ready()

    def _copy(self):
        made = Day()
        made.choices = self.choices
        made.rules = self.rules
        made.deeds = self.deeds
        made.names = self.names
        made._standing = self._standing
        made._prices = self._prices
        made._tables = self._tables
        made._cells = self._cells
        made._rows = self._rows
        made._draft = self._draft
        return made

    def _ready(self):
        if not self._draft:
            for where, name in unready_things(self):
                raise Unready(where, name)
        return self


def remade(day, choices, standing, prices, deeds):
    """A day with other choices and deeds, if all that it names is there."""
    made = day._copy()
    made.choices = choices
    made._standing = dict(standing)
    made._prices = dict(prices)
    return made._with_deeds(deeds)


def draft():
    """The empty day, to which anything is added before it is finished."""
    day = Day()
    day._draft = True
    return day


def finished(day):
    """The day of a draft, if all that it names is there."""
    made = day._copy()
    made._draft = False
    return made._ready()


def without_key(table, key):
    """A dict but for a key."""
    return {other: table[other] for other in table if other != key}
