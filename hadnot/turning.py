"""Turning sets: the least changes that turn an answer."""

from hadnot.errors import TooWide
from hadnot.leaves import FALSE, TRUE
from hadnot.pools import MOST_NODES, Pool


def turning_sets(worth, standing):
    """All turning sets, in order."""
    world = worth.choices.full(standing)
    pool = Pool(worth.choices)
    top = turning_node(worth, world, pool)
    counts = counts_below(top, world, pool)
    for many in range(len(counts[top])):
        # Nodes that are still to be gone down from, with the pairs above them.
        waiting = [(top, ())]
        while waiting:
            node, pairs = waiting.pop()
            if node == TRUE and len(pairs) == many:
                yield pairs
            elif has_row(counts[node], many - len(pairs)):
                waiting.extend(steps_below(node, pairs, world, pool))


def count_turning(worth, standing):
    """The number of turning sets."""
    world = worth.choices.full(standing)
    pool = Pool(worth.choices)
    top = turning_node(worth, world, pool)
    return sum(counts_below(top, world, pool)[top])


def has_row(counts, many):
    """Whether there is a row with so many pairs more."""
    return 0 <= many < len(counts) and counts[many] > 0


def steps_below(node, pairs, world, pool):
    """The nodes below a node with the pairs above them, those whose rows come first last."""
    name = pool.choices.names[pool.levels[node]]
    steps = [(pool.under[node][world[name]], pairs)]
    for option in range(len(pool.under[node]) - 1, -1, -1):
        if option != world[name]:
            steps.append((pool.under[node][option], (*pairs, (name, option))))
    return steps


def turning_node(worth, world, pool):
    """Where a world is that of a turning set: it turns the answer, and no lesser set of choices does."""
    turned = pool.crossed("minus", TRUE, pool.crossed("is", pool.entered(worth), pool.of_value(worth(world))))
    reached = Reaching(world, pool).node_of(turned)
    levels = [worth.choices.names.index(name) for name in worth.depends]
    return pool.crossed("minus", turned, Lessening(world, pool, levels).node_of(reached, 0))


class Reaching:
    """Where some world that differs only in choices that differ here, too, comes to True below a node.

    What several nodes reach together is made from above, choice by choice: each node
    that is made then stands in the whole, so that it is known early if this is too wide.
    """

    def __init__(self, world, pool):
        self.pool = pool
        self.options = [world[name] for name in pool.choices.names]
        # From nodes to what they reach, None if this is too wide: it may be less so together with others.
        self.alone = {FALSE: FALSE, TRUE: TRUE}
        # What was made of some nodes, and of what others reach.
        self.made = {}
        # The nodes that stand in the whole.
        self.found = {}

    def node_of(self, top):
        """The node of what a node reaches; TooWide if it has too many nodes."""
        for node in self.pool.drawn_below(top):
            if node not in self.alone:
                self.alone[node] = self.unless_wide(node)
        if self.alone[top] is None:
            raise TooWide("", 0)
        return self.alone[top]

    def unless_wide(self, node):
        """The node of what a node reaches, or None."""
        self.found = {}
        try:
            return self.together((node,), ())
        except TooWide:
            return None

    def together(self, nodes, others):
        """The node of what some nodes reach, or what others have reached already."""
        others = [*others, *[self.alone[node] for node in nodes if self.alone.get(node) is not None]]
        if TRUE in others:
            return self.noted(TRUE)
        nodes = sorted(set([node for node in nodes if self.alone.get(node) is None]))
        others = sorted(set(others) - {FALSE})
        if not nodes and len(others) < 2:
            return self.noted(others[0] if others else FALSE)
        key = (tuple(nodes), tuple(others))
        if key not in self.made:
            self.made[key] = self.divided(nodes, others)
        return self.noted(self.made[key])

    def divided(self, nodes, others):
        """The node of the uppermost choice of some nodes."""
        pool = self.pool
        level = min([pool.levels[node] for node in [*nodes, *others]])
        many = pool.choices[pool.choices.names[level]]
        standing = self.options[level]
        steps = []
        # With all options that do not stand the same is reached.
        for option in (standing, 1 if standing == 0 else 0):
            below, beside = [], []
            for node in nodes:
                under = pool.under[node] if pool.levels[node] == level else (node,) * many
                below.extend([under[standing]] if option == standing else under)
            for node in others:
                beside.append(pool.under[node][option] if pool.levels[node] == level else node)
            steps.append(self.together(below, beside))
        same, turned = steps
        return pool.branch(level, tuple([same if option == standing else turned for option in range(many)]))

    def noted(self, node):
        """A node that stands in the whole, with all below it; TooWide if these are too many."""
        waiting = [node]
        while waiting:
            at = waiting.pop()
            if at not in self.found:
                self.found[at] = True
                waiting.extend(self.pool.under[at])
        if len(self.found) > MOST_NODES:
            raise TooWide("", 0)
        return node


class Lessening:
    """Where a choice that differs can stand as it does, and the other ones still reach."""

    def __init__(self, world, pool, levels):
        self.pool = pool
        # The choices that count, and the options at which they stand.
        self.levels = levels
        self.options = [world[pool.choices.names[level]] for level in levels]
        self.made = {}

    def node_of(self, reached, place):
        """The node for what is reached by the choices from a place on."""
        if reached == FALSE or place == len(self.levels):
            return FALSE
        if (reached, place) not in self.made:
            pool, level, option = self.pool, self.levels[place], self.options[place]
            many = pool.choices[pool.choices.names[level]]
            under = (reached,) * many
            if pool.levels[reached] == level:
                under = pool.under[reached]
            left = under[option]
            other = under[1 if option == 0 else 0]
            same = self.node_of(left, place + 1)
            less = pool.crossed("either", left, self.node_of(other, place + 1))
            self.made[reached, place] = pool.branch(level, tuple([
                same if at == option else less for at in range(many)]))
        return self.made[reached, place]


def counts_below(top, world, pool):
    """For each node below one the numbers of rows of pairs, by how many pairs they have."""
    counts = {FALSE: [], TRUE: [1]}
    for node in pool.drawn_below(top):
        if node not in counts:
            standing = world[pool.choices.names[pool.levels[node]]]
            rows = [counts[lower] if option == standing else [0, *counts[lower]]
                    for option, lower in enumerate(pool.under[node])]
            longest = max([len(row) for row in rows])
            counts[node] = [sum([row[many] for row in rows if many < len(row)]) for many in range(longest)]
    return counts
