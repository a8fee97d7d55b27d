"""Operations on values, with their faults.

Each function returns a value and None, or None and the word of the fault. Runs of
one world and of all worlds both go by these.
"""

from hadnot.values import kind_of

# The least number with more than 18 digits.
GREAT = 10 ** 18
# The words of faults.
KIND = "kind"
GREAT_WORD = "great"
MISSING = "missing"
THERE = "there"
NEED = "need"


def operated(sign, one, other):
    """The value of an operation on two values."""
    kinds = (kind_of(one), kind_of(other))
    if sign == "=":
        fitting = kinds[0] == kinds[1]
    elif sign == "<":
        fitting = kinds[0] == kinds[1] and kinds[0] in ("number", "word")
    else:
        fitting = kinds == ("number", "number")
    if not fitting:
        return None, KIND
    return within(reckoned(sign, one, other))


def reckoned(sign, one, other):
    """The value of an operation on two values of the kinds that it asks for."""
    if sign == "+":
        return one + other
    if sign == "-":
        return one - other
    if sign == "*":
        return one * other
    if sign == "least":
        return min(one, other)
    if sign == "most":
        return max(one, other)
    if sign == "<":
        return one < other
    return one == other


def within(value):
    """A value, unless it is a number with too many digits."""
    if isinstance(value, int) and not -GREAT < value < GREAT:
        return None, GREAT_WORD
    return value, None


def gathered(how, total, value):
    """What count, sum, low or high have behind one more value; None stands ahead of the first one."""
    if how == "count":
        return (total or 0) + 1, None
    if kind_of(value) != "number":
        return None, KIND
    if how == "sum":
        return within((total or 0) + value)
    if total is None:
        return value, None
    return (min(total, value) if how == "low" else max(total, value)), None
