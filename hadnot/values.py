"""Names, values, and their order."""

LETTERS = "abcdefghijklmnopqrstuvwxyz"
DIGITS = "0123456789"
MOST_SIGNS = 6


def is_name(value):
    """Whether any value is a name."""
    if not isinstance(value, str) or not 1 <= len(value) <= MOST_SIGNS:
        return False
    return value[0] in LETTERS and all([sign in LETTERS or sign in DIGITS for sign in value])


def is_decimal(text, most):
    """Whether a text is a number from 0 in at most so many digits, with no 0 ahead."""
    if not 1 <= len(text) <= most or (text[0] == "0" and len(text) > 1):
        return False
    return all([sign in DIGITS for sign in text])


def is_choice_name(text):
    """Whether a text is a name or that of an opened row."""
    name, point, row = text.partition(".")
    return is_name(name) and (point == "" or is_decimal(row, 2))


def is_value(value):
    """Whether any value is None, a number, a word or a truth."""
    return value is None or isinstance(value, int) or is_name(value)


def kind_of(value):
    """The kind of a value; "" for what is none.

    Every string counts as a word: a refusal has the word missing, with seven signs.
    """
    if value is None:
        return "none"
    if isinstance(value, bool):
        return "truth"
    if isinstance(value, int):
        return "number"
    if isinstance(value, str):
        return "word"
    return ""


def is_same(one, other):
    """Whether two values are of one kind and equal."""
    return kind_of(one) == kind_of(other) and one == other


def rank(value):
    """What a value is sorted by: Python neither orders kinds nor parts 1 from True."""
    kind = kind_of(value)
    if kind == "none":
        return (0, 0)
    if kind == "number":
        return (1, value)
    if kind == "word":
        return (2, value)
    return (3, int(value))


def in_order(values):
    """The list of these values in order, each once."""
    ranked = {rank(value): value for value in values}
    return [ranked[place] for place in sorted(list(ranked))]


def show(value):
    """The text of a value."""
    if value is None:
        return "none"
    if value is True:
        return "true"
    if value is False:
        return "false"
    if isinstance(value, str):
        return f"'{value}"
    return str(value)
