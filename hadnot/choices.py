"""Choices and their worlds."""

from hadnot.errors import InvalidName, Taken, UnknownName
from hadnot.values import is_choice_name, kind_of


class Choices:
    """Choices with their options, in the order of their numbers."""

    def __init__(self):
        self.names = ()
        # From each name to the number of options and the number of the choice.
        self._choices = {}
        # A number is never given again, also behind choices that were left out.
        self._next = 0

    def put(self, name, many):
        """These choices with one more."""
        if not is_choice_name(name):
            raise InvalidName(name)
        if name in self._choices:
            raise Taken(name)
        made = Choices()
        made.names = (*self.names, name)
        made._choices = {**self._choices, name: (many, self._next)}
        made._next = self._next + 1
        return made

    def without(self, name):
        """These choices but one."""
        if name not in self._choices:
            raise UnknownName(name)
        made = Choices()
        made.names = tuple([other for other in self.names if other != name])
        made._choices = {other: self._choices[other] for other in made.names}
        made._next = self._next
        return made

    def __getitem__(self, name):
        if name not in self._choices:
            raise UnknownName(name)
        return self._choices[name][0]

    def number(self, name):
        """The number of a choice."""
        if name not in self._choices:
            raise UnknownName(name)
        return self._choices[name][1]

    def __contains__(self, name):
        return name in self._choices

    def __len__(self):
        return len(self.names)

    def __iter__(self):
        raise TypeError("choices cannot be iterated over")

    def __eq__(self, other):
        return isinstance(other, Choices) and self._choices == other._choices

    def full(self, world):
        """A world with all choices: those that it does not name have option 0."""
        return {name: world.get(name, 0) for name in self.names}

    def is_world(self, value):
        """Whether any value is a world of these choices."""
        if not isinstance(value, dict):
            return False
        return all([self.has_option(name, value[name]) for name in value])

    def has_option(self, name, option):
        """Whether there is such a choice, and any value is an option of it."""
        if name not in self._choices or kind_of(option) != "number":
            return False
        return 0 <= option < self._choices[name][0]

    def worlds(self):
        """All full worlds, ascending by the rows of options."""
        most = [self._choices[name][0] for name in self.names]
        row = [0 for _ in self.names]
        while row is not None:
            yield dict(zip(self.names, row))
            row = row_behind(row, most)


def row_behind(row, most):
    """The next row of options, or None behind the last one."""
    later = list(row)
    for at in range(len(later) - 1, -1, -1):
        if later[at] + 1 < most[at]:
            later[at] = later[at] + 1
            return later
        later[at] = 0
    return None
