"""The forms of worths: nodes, each behind all that is below it.

The functions here keep what they work on in lists of their own, and take the
sign of an operation instead of a function: the operators of worths run them, and
these change nothing and call nothing that they are passed.
"""

from hadnot.values import is_same, kind_of

# The kinds of values for which these operations have a value other than None.
KINDS = {
    "+": ("number",),
    "-": ("number",),
    "*": ("number",),
    "least": ("number",),
    "most": ("number",),
    "and": ("truth",),
    "or": ("truth",),
    "below": ("number", "word"),
    "same": ("number", "word", "truth"),
}


class Form:
    """Nodes as worths tell them, and the level of each: the place of its choice.

    Values have a level greater than that of any choice. The last node is the
    uppermost one.
    """

    def __init__(self, nodes, levels):
        self.nodes = nodes
        self.levels = levels


def constant(choices, value):
    """The form of one value everywhere."""
    return Form(((kind_of(value), value),), (len(choices),))


def branched(choices, name, values):
    """The form of one value for each option of a choice."""
    nodes = [(kind_of(value), value) for value in values]
    levels = [len(choices) for _ in nodes]
    above = (name, tuple(range(len(nodes))))
    return drawn(Form([*nodes, above], [*levels, choices.names.index(name)]))


def fixed(form, name, option):
    """The form that comes of one where a choice has an option everywhere."""
    nodes = []
    for node in form.nodes:
        if is_choice(node) and node[0] == name:
            node = (name, tuple([node[1][option] for _ in node[1]]))
        nodes.append(node)
    return drawn(Form(nodes, form.levels))


def is_choice(node):
    """Whether a node is a choice: the second item of a value is no tuple."""
    return isinstance(node[1], tuple)


def drawn(form):
    """A form whose nodes may be needless, alike, or in another order, drawn as [11] has it."""
    return joined("else", form, Form((("none", None),), (max(form.levels),)))


def joined(sign, one, other):
    """The form of an operation on two forms, world by world.

    Pairs of nodes are gone through from the uppermost one, option by option,
    and are done behind all that is below them: so the nodes get their numbers.
    """
    nodes = []
    levels = []
    numbers = {}
    done = {}
    waiting = [(len(one.nodes) - 1, len(other.nodes) - 1)]
    while waiting:
        pair = waiting[-1]
        below = pairs_below(one, other, pair)
        missing = [lower for lower in below if lower not in done]
        if missing:
            waiting.extend(missing[::-1])
            continue
        waiting.pop()
        under = tuple([done[lower] for lower in below])
        if under and len(set(under)) == 1:
            done[pair] = under[0]
            continue
        node = (upper_name(one, other, pair), under)
        if not under:
            node = combined(sign, one.nodes[pair[0]], other.nodes[pair[1]])
        if node not in numbers:
            numbers[node] = len(nodes)
            nodes.append(node)
            levels.append(min(one.levels[pair[0]], other.levels[pair[1]]))
        done[pair] = numbers[node]
    return Form(tuple(nodes), tuple(levels))


def upper_name(one, other, pair):
    """The first item of that of two nodes which stands above."""
    if one.levels[pair[0]] <= other.levels[pair[1]]:
        return one.nodes[pair[0]][0]
    return other.nodes[pair[1]][0]


def pairs_below(one, other, pair):
    """The pairs below two nodes, for each option of the choice that stands above."""
    at, by = pair
    if one.levels[at] < other.levels[by]:
        return [(lower, by) for lower in one.nodes[at][1]]
    if other.levels[by] < one.levels[at]:
        return [(at, lower) for lower in other.nodes[by][1]]
    if is_choice(one.nodes[at]):
        return list(zip(one.nodes[at][1], other.nodes[by][1]))
    return []


def combined(sign, one, other):
    """The value node of an operation on two value nodes."""
    if sign not in KINDS:
        value = picked(sign, one[1], other[1])
    elif one[0] == other[0] and one[0] in KINDS[sign]:
        value = worked(sign, one[1], other[1])
    else:
        value = None
    return (kind_of(value), value)


def worked(sign, one, other):
    """The value of an operation that asks for the kinds of its values."""
    if sign == "+":
        return one + other
    if sign == "-":
        return one - other
    if sign == "*":
        return one * other
    if sign == "least":
        return min(one, other)
    if sign == "most":
        return max(one, other)
    if sign == "below":
        return one < other
    if sign == "same":
        return one == other
    if sign == "and":
        return one and other
    return one or other


def picked(sign, one, other):
    """The value of an operation on values of all kinds."""
    if sign == "is":
        return is_same(one, other)
    if sign == "either":
        return one is True or other is True
    if sign == "both":
        return one is True and other is True
    if sign == "limited":
        return one if other is True else None
    return other if one is None else one


def many_worlds(form, value, total):
    """In how many of so many worlds a form has a value.

    An option of a choice stands in the same part of the worlds as any other.
    """
    counts = []
    for node in form.nodes:
        if is_choice(node):
            counts.append(sum([counts[lower] for lower in node[1]]) // len(node[1]))
        else:
            counts.append(total if is_same(node[1], value) else 0)
    return counts[-1]


def parting_options(one, other):
    """The options of the first world in which two forms part, or None."""
    alike = common_numbers(one, other)
    pair = (len(one.nodes) - 1, len(other.nodes) - 1)
    if alike[pair[1]] == pair[0]:
        return None
    options = {}
    below = pairs_below(one, other, pair)
    while below:
        apart = [option for option, lower in enumerate(below) if alike[lower[1]] != lower[0]]
        options[upper_name(one, other, pair)] = apart[0]
        pair = below[apart[0]]
        below = pairs_below(one, other, pair)
    return options


def common_numbers(one, other):
    """For each node of a form the number of the same function in another one.

    A function that the other form does not have gets a number behind all of its own.
    """
    numbers = {}
    for node in one.nodes:
        numbers[node] = len(numbers)
    common = []
    for node in other.nodes:
        if is_choice(node):
            node = (node[0], tuple([common[lower] for lower in node[1]]))
        if node not in numbers:
            numbers[node] = len(numbers)
        common.append(numbers[node])
    return common
