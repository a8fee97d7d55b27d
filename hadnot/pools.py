"""Nodes that many worths share."""

from hadnot.forms import Form
from hadnot.leaves import FIRST, NONE, at_once, leaf_between, value_leaf
from hadnot.worths import Worth

# Worths with more nodes are too wide.
MOST_NODES = 300
# With more of them what was worked out is forgotten, so that it does not fill the memory.
MOST_KEPT = 500000


class Pool:
    """Nodes over some choices; each function has one number.

    The nodes below a choice have lesser numbers, those of the options by turns.
    """

    def __init__(self, choices):
        self.choices = choices
        self.bottom = len(choices)
        # Of each node: the place of its choice, the nodes below, and its leaf.
        self.levels = []
        self.under = []
        self.leaves = []
        # How many nodes it would have without sharing, at most one too many; whether a fault is below.
        self.weights = []
        self.faulty = []
        self._numbers = {}
        self._crossed = {}
        self._sizes = {}
        for leaf in FIRST:
            self.leaf(leaf)

    def leaf(self, leaf):
        """The number of a leaf."""
        if leaf not in self._numbers:
            self._added(leaf, self.bottom, (), leaf, 1, leaf[0] == "fault")
        return self._numbers[leaf]

    def of_value(self, value):
        """The number of a value."""
        return self.leaf(value_leaf(value))

    def branch(self, level, under):
        """The number of a choice with these nodes below."""
        first = under[0]
        if all([node == first for node in under]):
            return first
        key = (level, under)
        if key not in self._numbers:
            weight = 1 + sum([self.weights[node] for node in under])
            faulty = any([self.faulty[node] for node in under])
            self._added(key, level, under, None, min(weight, MOST_NODES + 1), faulty)
        return self._numbers[key]

    def _added(self, key, level, under, leaf, weight, faulty):
        self._numbers[key] = len(self.levels)
        self.levels.append(level)
        self.under.append(under)
        self.leaves.append(leaf)
        self.weights.append(weight)
        self.faulty.append(faulty)

    def by_choice(self, name, values):
        """The node of one value for each option of a choice."""
        return self.branch(self.choices.names.index(name), tuple([self.of_value(value) for value in values]))

    def entered(self, worth):
        """The node of a worth over the same choices."""
        numbers = []
        for (name, value), level in zip(worth.nodes, worth.form.levels):
            if level == self.bottom:
                numbers.append(self.leaf((name, value)))
            else:
                numbers.append(self.branch(level, tuple([numbers[lower] for lower in value])))
        return numbers[-1]

    def crossed(self, sign, one, other=NONE):
        """The node of an operation on two nodes, world by world."""
        found = at_once(sign, one, other)
        if found is not None:
            return found
        key = (sign, one, other)
        if key in self._crossed:
            return self._crossed[key]
        level, beside = self.levels[one], self.levels[other]
        if level < beside:
            under = [self.crossed(sign, node, other) for node in self.under[one]]
        elif beside < level:
            level = beside
            under = [self.crossed(sign, one, node) for node in self.under[other]]
        elif level < self.bottom:
            under = [self.crossed(sign, node, by) for node, by in zip(self.under[one], self.under[other])]
        else:
            under = [self.leaf(leaf_between(sign, self.leaves[one], self.leaves[other]))]
        made = self.branch(level, tuple(under))
        if len(self._crossed) > MOST_KEPT:
            self.forget()
        self._crossed[key] = made
        return made

    def forget(self):
        """Forget what operations have made: it can be worked out again."""
        self._crossed.clear()

    def is_wide(self, node):
        """Whether the form of a node has too many nodes."""
        if self.weights[node] <= MOST_NODES:
            return False
        if node not in self._sizes:
            self._sizes[node] = len(self.drawn_below(node))
        return self._sizes[node] > MOST_NODES

    def leaves_of(self, node):
        """The leaves below a node."""
        if self.levels[node] == self.bottom:
            return [self.leaves[node]]
        return [self.leaves[at] for at in self.drawn_below(node) if self.levels[at] == self.bottom]

    def drawn_below(self, node):
        """The nodes of a form in their order, the uppermost one behind all others."""
        done = {}
        waiting = [node]
        while waiting:
            at = waiting[-1]
            missing = [lower for lower in self.under[at] if lower not in done]
            if missing:
                waiting.extend(missing[::-1])
            else:
                waiting.pop()
                done[at] = True
        return list(done)

    def worth(self, node):
        """The worth of a node."""
        order = self.drawn_below(node)
        numbers = {at: number for number, at in enumerate(order)}
        names = self.choices.names
        nodes = []
        for at in order:
            if self.levels[at] == self.bottom:
                nodes.append(self.leaves[at])
            else:
                nodes.append((names[self.levels[at]], tuple([numbers[lower] for lower in self.under[at]])))
        return Worth(self.choices, Form(tuple(nodes), tuple([self.levels[at] for at in order])))
