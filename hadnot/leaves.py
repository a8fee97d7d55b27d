"""What the operations of a pool make of two leaves, and of nodes at once.

A leaf is a pair of a kind and a value. Beside the kinds of values there are
"fault" with the word of a fault, and "stop" with the row and the word at which a
saying was refused.
"""

from hadnot.operations import KIND, MISSING, gathered, operated
from hadnot.values import kind_of

# The numbers that these leaves have in each pool.
NONE = 0
FALSE = 1
TRUE = 2
FIRST = (("none", None), ("truth", False), ("truth", True))
# Operations on values that have none where one of them is None.
ON_VALUES = ("+", "-", "*", "least", "most", "<", "=")
GATHERING = ("count", "sum", "low", "high")


def at_once(sign, one, other):
    """The number of the node to which an operation comes without looking below, or None.

    Of truths there is no other answer to both, either, minus, and cut by a truth.
    """
    if sign == "cut":
        if one == NONE or other == TRUE:
            return one
        return NONE if other in (FALSE, NONE) else None
    if sign == "fill":
        if one == NONE or one == other:
            return other
        return one if other == NONE else None
    if sign == "both":
        if one == FALSE or other == TRUE or one == other:
            return one
        return other if other == FALSE or one == TRUE else None
    if sign == "either":
        if one == TRUE or other == FALSE or one == other:
            return one
        return other if other == TRUE or one == FALSE else None
    if sign == "minus":
        if one == FALSE or other == TRUE or one == other:
            return FALSE
        return one if other == FALSE else None
    if sign in ON_VALUES and NONE in (one, other):
        return NONE
    return None


def leaf_between(sign, one, other):
    """The leaf that an operation makes of two leaves to which at_once knows no answer."""
    if sign in GATHERING:
        return one if other[0] == "none" else outcome_leaf(gathered(sign, one[1], other[1]))
    if sign in ON_VALUES:
        return outcome_leaf(operated(sign, one[1], other[1]))
    if sign in ("read", "present"):
        return leaf_where(sign, one, other)
    if sign in ("and", "or"):
        return leaf_of_truths(sign, one, other)
    if sign == "stop":
        return one if one[0] == "none" else ("stop", (other[1], one[1]))
    if sign == "is":
        return ("truth", one == other)
    if sign == "known":
        return ("truth", one[0] != "none")
    if sign == "fill":
        return one
    return leaf_changed(sign, one)


def value_leaf(value):
    """The leaf of a value."""
    return (kind_of(value), value)


def outcome_leaf(outcome):
    """The leaf of a value, or of the word of a fault."""
    value, word = outcome
    return value_leaf(value) if word is None else ("fault", word)


def leaf_where(sign, one, other):
    """What is read in the worlds that are looked at, None in others."""
    if other[1] is not True:
        return ("none", None)
    if sign == "present":
        return ("truth", one[0] != "none")
    return ("fault", MISSING) if one[0] == "none" else one


def leaf_of_truths(sign, one, other):
    """The leaf of and, or: the second value counts only where it was evaluated."""
    if one[0] == "none" or one[1] == (sign == "or"):
        return one
    return leaf_changed("truth", other)


def leaf_changed(sign, one):
    """What a leaf becomes: of a kind that is asked for, or a part of what it tells."""
    kind, value = one
    if sign == "truth":
        return one if kind in ("truth", "none") else ("fault", KIND)
    if sign == "untrue":
        return ("fault", KIND) if kind == "truth" else one
    if sign == "not":
        return one if kind == "none" else ("truth", not value)
    if sign == "value":
        return ("none", None) if kind == "fault" else one
    if sign == "fault":
        return one if kind == "fault" else ("none", None)
    if kind == "stop" and sign == "stop row":
        return ("number", value[0])
    if kind == "stop" and sign == "stop word":
        return ("word", value[1])
    return one
