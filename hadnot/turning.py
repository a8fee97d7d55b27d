"""Turning sets: the least changes that turn an answer."""

from hadnot.errors import TooWide
from hadnot.leaves import FALSE, TRUE
from hadnot.pools import Pool


def turning_sets(worth, standing):
    """All turning sets, in order."""
    world = worth.choices.full(standing)
    pool = Pool(worth.choices)
    top = turning_node(worth, world, pool)
    counts = counts_below(top, world, pool)
    for many in range(len(counts[top])):
        # Nodes that are still to be gone down from, with the pairs above them.
        waiting = [(top, ())]
        while waiting:
            node, pairs = waiting.pop()
            if node == TRUE and len(pairs) == many:
                yield pairs
            elif has_row(counts[node], many - len(pairs)):
                waiting.extend(steps_below(node, pairs, world, pool))


def count_turning(worth, standing):
    """The number of turning sets."""
    world = worth.choices.full(standing)
    pool = Pool(worth.choices)
    top = turning_node(worth, world, pool)
    return sum(counts_below(top, world, pool)[top])


def has_row(counts, many):
    """Whether there is a row with so many pairs more."""
    return 0 <= many < len(counts) and counts[many] > 0


def steps_below(node, pairs, world, pool):
    """The nodes below a node with the pairs above them, those whose rows come first last."""
    name = pool.choices.names[pool.levels[node]]
    steps = [(pool.under[node][world[name]], pairs)]
    for option in range(len(pool.under[node]) - 1, -1, -1):
        if option != world[name]:
            steps.append((pool.under[node][option], (*pairs, (name, option))))
    return steps


def turning_node(worth, world, pool):
    """Where a world is that of a turning set: it turns the answer, and no lesser set of choices does."""
    turned = pool.crossed("minus", TRUE, pool.crossed("is", pool.entered(worth), pool.of_value(worth(world))))
    reached = reaching(turned, world, pool)
    if pool.is_wide(reached):
        raise TooWide("", 0)
    levels = [worth.choices.names.index(name) for name in worth.depends]
    return pool.crossed("minus", turned, Lessening(world, pool, levels).node_of(reached, 0))


def reaching(turned, world, pool):
    """Where some world that differs only in choices that differ here, too, turns the answer."""
    done = {FALSE: FALSE, TRUE: TRUE}
    for node in pool.drawn_below(turned):
        if node not in done:
            level = pool.levels[node]
            standing = world[pool.choices.names[level]]
            below = [done[lower] for lower in pool.under[node]]
            some = FALSE
            for lower in below:
                some = pool.crossed("either", some, lower)
            done[node] = pool.branch(level, tuple([
                lower if option == standing else some for option, lower in enumerate(below)]))
    return done[turned]


class Lessening:
    """Where a choice that differs can stand as it does, and the other ones still reach."""

    def __init__(self, world, pool, levels):
        self.pool = pool
        # The choices that count, and the options at which they stand.
        self.levels = levels
        self.options = [world[pool.choices.names[level]] for level in levels]
        self.made = {}

    def node_of(self, reached, place):
        """The node for what is reached by the choices from a place on."""
        if reached == FALSE or place == len(self.levels):
            return FALSE
        if (reached, place) not in self.made:
            pool, level, option = self.pool, self.levels[place], self.options[place]
            many = pool.choices[pool.choices.names[level]]
            under = (reached,) * many
            if pool.levels[reached] == level:
                under = pool.under[reached]
            left = under[option]
            other = under[1 if option == 0 else 0]
            same = self.node_of(left, place + 1)
            less = pool.crossed("either", left, self.node_of(other, place + 1))
            self.made[reached, place] = pool.branch(level, tuple([
                same if at == option else less for at in range(many)]))
        return self.made[reached, place]


def counts_below(top, world, pool):
    """For each node below one the numbers of rows of pairs, by how many pairs they have."""
    counts = {FALSE: [], TRUE: [1]}
    for node in pool.drawn_below(top):
        if node not in counts:
            standing = world[pool.choices.names[pool.levels[node]]]
            rows = [counts[lower] if option == standing else [0, *counts[lower]]
                    for option, lower in enumerate(pool.under[node])]
            longest = max([len(row) for row in rows])
            counts[node] = [sum([row[many] for row in rows if many < len(row)]) for many in range(longest)]
    return counts
