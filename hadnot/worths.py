"""Worths: functions of choices in one form."""

from hadnot.errors import OtherChoices, UnknownName
from hadnot.forms import Form, branched, constant, fixed, is_choice, joined
from hadnot.forms import many_worlds, parting_options
from hadnot.values import in_order, kind_of, show


class Worth:
    """A value in each world of some choices.

    Within the package a form may be passed in the place of the value.
    """

    def __init__(self, choices, value):
        form = value if isinstance(value, Form) else constant(choices, value)
        named = {node[0]: True for node in form.nodes if is_choice(node)}
        self.choices = choices
        self.form = form
        self.nodes = form.nodes
        self.outcomes = tuple(in_order([node[1] for node in form.nodes if not is_choice(node)]))
        self.depends = tuple([name for name in choices.names if name in named])

    @classmethod
    def by(cls, choices, name, values):
        """The worth that has one value for each option of a choice."""
        if name not in choices:
            raise UnknownName(name)
        return cls(choices, branched(choices, name, values))

    def __call__(self, world):
        node = self.nodes[-1]
        while is_choice(node):
            node = self.nodes[node[1][world.get(node[0], 0)]]
        return node[1]

    def __len__(self):
        return len(self.nodes)

    def __eq__(self, other):
        return isinstance(other, Worth) and self.choices == other.choices and self.nodes == other.nodes

    def __str__(self):
        return " ; ".join([node_text(node) for node in self.nodes])

    def __contains__(self, value):
        # A value without a kind is in no node: no choice has the name "".
        return (kind_of(value), value) in self.nodes

    def __getitem__(self, at):
        name, option = at
        if name not in self.choices:
            raise UnknownName(name)
        return Worth(self.choices, fixed(self.form, name, option))

    def __iter__(self):
        raise TypeError("worths cannot be iterated over")

    def count(self, value):
        """The number of worlds in which the worth has a value."""
        total = 1
        for name in self.choices.names:
            total = total * self.choices[name]
        return many_worlds(self.form, value, total)

    def __add__(self, other):
        return self._joined("+", other)

    def __sub__(self, other):
        return self._joined("-", other)

    def __mul__(self, other):
        return self._joined("*", other)

    def __neg__(self):
        return Worth(self.choices, 0)._joined("-", self)

    def __and__(self, other):
        return self._joined("and", other)

    def __or__(self, other):
        return self._joined("or", other)

    def __invert__(self):
        # Of truths just the other one is the same as False.
        return Worth(self.choices, False)._joined("same", self)

    def least(self, other):
        """The lesser number."""
        return self._joined("least", other)

    def most(self, other):
        """The greater number."""
        return self._joined("most", other)

    def below(self, other):
        """Whether a number or word is less than one of the same kind."""
        return self._joined("below", other)

    def same(self, other):
        """Whether two values of one kind are equal."""
        return self._joined("same", other)

    def when(self, one, other):
        """The value of one worth where this one is True, of another one where it is False."""
        return one.limited(self).or_else(other.limited(~self))

    def is_value(self, value):
        """Whether the worth has a value."""
        return self._joined("is", Worth(self.choices, value))

    def limited(self, truth):
        """This worth where another one is True, else None."""
        return self._joined("limited", truth)

    def or_else(self, other):
        """This worth, but another one where it is None."""
        return self._joined("else", other)

    def some(self, name):
        """Whether the worth is True for some option of a choice."""
        return self._over_options("either", name)

    def every(self, name):
        """Whether the worth is True for every option of a choice."""
        return self._over_options("both", name)

    def put(self, name, other):
        """The worth whose choice has the option that another worth has as its value."""
        result = Worth(self.choices, None)
        for option in range(self.choices[name]):
            result = result.or_else(self[name, option].limited(other.is_value(option)))
        return result

    def parting(self, other):
        """The least full world in which two worths do not have the same value, or None."""
        if self.choices != other.choices:
            raise OtherChoices()
        options = parting_options(self.form, other.form)
        return None if options is None else self.choices.full(options)

    def _joined(self, sign, other):
        if self.choices != other.choices:
            raise OtherChoices()
        return Worth(self.choices, joined(sign, self.form, other.form))

    def _over_options(self, sign, name):
        result = self[name, 0]
        for option in range(1, self.choices[name]):
            result = result._joined(sign, self[name, option])
        return result


def node_text(node):
    """The text of one node of a form."""
    if is_choice(node):
        below = " ".join([str(at) for at in node[1]])
        return f"{node[0]}({below})"
    return show(node[1])
