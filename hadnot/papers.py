"""Papers: whether what is told of a worth holds, with less work than finding it."""

from hadnot.forms import is_choice
from hadnot.hidden import hidden_from
from hadnot.pairs import is_free, least_costs, priced, true_ends, with_pairs
from hadnot.supports import support
from hadnot.values import is_same, kind_of


def turning_holds(worth, standing, pairs):
    """Whether any value is a turning set."""
    world = worth.choices.full(standing)
    if not is_row(pairs, worth.choices, world) or not turns(worth, world, pairs):
        return False
    names = [name for name, _ in pairs]
    return all([is_free(worth, world, [other for other in names if other != name]) for name in names])


def support_holds(worth, standing, pair, pairs):
    """Whether any value is a row of pairs with which one more pair turns the answer, or None where there is none."""
    if pairs is None:
        return support(worth, standing, pair) is None
    world = worth.choices.full(standing)
    name, option = pair
    if not is_row(pairs, worth.choices, world) or name in [other for other, _ in pairs]:
        return False
    return not turns(worth, world, pairs) and turns(worth, world, [*pairs, (name, option)])


def price_paper(worth, standing, prices):
    """For each node the least price of a way from it to True, None if there is none."""
    costs = priced(worth.choices, worth.choices.full(standing), prices)
    return tuple([None if cost is None else cost[0] for cost in least_costs(worth, costs, true_ends(worth))])


def price_holds(worth, standing, prices, price, paper):
    """Whether any value shows that no world with True is cheaper than a price."""
    if not isinstance(paper, tuple) or len(paper) != len(worth.nodes):
        return False
    if not all([number is None or (kind_of(number) == "number" and number >= 0) for number in paper]):
        return False
    costs = priced(worth.choices, worth.choices.full(standing), prices)
    for node, number in zip(worth.nodes, paper):
        if is_choice(node):
            if not is_below(number, [paper[lower] for lower in node[1]], costs[node[0]]):
                return False
        elif node[1] is True and number != 0:
            return False
    return paper[-1] is None or paper[-1] >= price


def is_below(number, numbers, costs):
    """Whether the number of a choice is not more than any of its options' nodes asks for."""
    most = [lower + cost[0] for lower, cost in zip(numbers, costs) if lower is not None]
    if number is None:
        return not most
    return all([number <= each for each in most])


def free_holds(worth, standing, names, worlds):
    """Whether any values are a free set, and rows of pairs that show that no other choice keeps it free."""
    choices = worth.choices
    world = choices.full(standing)
    if not are_choices(names, choices) or not is_free(worth, world, names):
        return False
    others = [name for name in choices.names if name not in names]
    return are_worlds(worlds, others, names, worth, world)


def shown_holds(worth, standing, seen, told):
    """Whether any value is the answer that can be told, or what is to be shown to tell it and nothing in vain."""
    choices = worth.choices
    world = choices.full(standing)
    hidden = hidden_from(seen, choices)
    if not isinstance(told, tuple):
        return False
    if is_free(worth, world, hidden):
        return len(told) == 2 and told[0] == "told" and is_same(told[1], worth(world))
    if len(told) != 3 or told[0] != "show":
        return False
    _, names, worlds = told
    # Each world of [36] agrees on what is seen, so that none could show why a seen choice is among the names.
    if not are_choices(names, choices) or not all([name in worth.depends and name in hidden for name in names]):
        return False
    left = [name for name in hidden if name not in names]
    return is_free(worth, world, left) and are_worlds(worlds, names, left, worth, world)


def are_choices(names, choices):
    """Whether any value is a tuple of different choices by ascending numbers."""
    if not isinstance(names, tuple):
        return False
    if not all([isinstance(name, str) and name in choices for name in names]):
        return False
    return is_ascending([choices.number(name) for name in names])


def are_worlds(worlds, names, free, worth, world):
    """Whether any value is a dict from just some names to rows of pairs, in each and a free set, that turn it."""
    if not isinstance(worlds, dict) or len(worlds) != len(names):
        return False
    for name in names:
        if name not in worlds or not is_row(worlds[name], worth.choices, world):
            return False
        if not all([other == name or other in free for other, _ in worlds[name]]):
            return False
        if not turns(worth, world, worlds[name]):
            return False
    return True


def is_row(pairs, choices, world):
    """Whether any value is the row of pairs of a world."""
    if not isinstance(pairs, tuple) or not all([is_pair(pair, choices, world) for pair in pairs]):
        return False
    return is_ascending([choices.number(name) for name, _ in pairs])


def is_pair(pair, choices, world):
    """Whether any value is a choice with an option that does not stand."""
    if not isinstance(pair, tuple) or len(pair) != 2 or not isinstance(pair[0], str):
        return False
    return choices.has_option(pair[0], pair[1]) and pair[1] != world[pair[0]]


def is_ascending(numbers):
    """Whether each number is greater than the one ahead of it."""
    return all([one < other for one, other in zip(numbers, numbers[1:])])


def turns(worth, world, pairs):
    """Whether some pairs turn the answer."""
    return not is_same(worth(with_pairs(world, pairs)), worth(world))
