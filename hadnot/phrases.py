"""The forms of expressions and of the rows of sayings.

For each first word the kinds of the parts behind it, from the left, as they
stand in texts too. Numbers, words, cells and locals have signs instead of a
first word there.
"""

EXPRESSIONS = {
    "part": ("table", "expression", "part"),
    "has": ("cell",),
    "stands": ("table", "expression"),
    "done": ("deed",),
    "chosen": ("choice", "option"),
    "+": ("expression", "expression"),
    "-": ("expression", "expression"),
    "*": ("expression", "expression"),
    "least": ("expression", "expression"),
    "most": ("expression", "expression"),
    "<": ("expression", "expression"),
    "=": ("expression", "expression"),
    "and": ("expression", "expression"),
    "or": ("expression", "expression"),
    "not": ("expression",),
    "when": ("expression", "expression", "expression"),
    "call": ("rule", "expressions"),
    "count": ("local", "table", "expression"),
    "sum": ("local", "table", "expression", "expression"),
    "low": ("local", "table", "expression", "expression"),
    "high": ("local", "table", "expression", "expression"),
}

ROWS = {
    "let": ("local", "expression"),
    "put": ("cell", "expression"),
    "drop": ("cell",),
    "insert": ("table", "expression", "expressions"),
    "change": ("table", "expression", "part", "expression"),
    "delete": ("table", "expression"),
    "if": ("expression", "rows", "rows"),
    "each": ("local", "table", "rows"),
    "need": ("expression",),
    "tell": ("expression",),
}


def with_tuples(value):
    """A value with tuples in the place of lists, at any depth."""
    if isinstance(value, (list, tuple)):
        return tuple([with_tuples(part) for part in value])
    return value


def expression_parts(expression):
    """The pairs of a kind and a part of an expression that has a first word.

    A call has its values in one part, as the row of an insert has.
    """
    parts = expression[1:]
    if expression[0] == "call":
        parts = (expression[1], expression[2:])
    return list(zip(EXPRESSIONS[expression[0]], parts))


def row_parts(row):
    """The pairs of a kind and a part of a row of a saying."""
    return list(zip(ROWS[row[0]], row[1:]))


def numbered(rows, first=0):
    """The rows with their numbers: triples of the number, the row, and the same of the rows in it.

    The third item has one list for each part of the row that has rows.
    """
    triples = []
    for row in rows:
        blocks = []
        behind = first + 1
        for kind, part in row_parts(row):
            if kind == "rows":
                blocks.append(numbered(part, behind))
                behind = behind + many_rows(part)
        triples.append((first, row, blocks))
        first = behind
    return triples


def many_rows(rows):
    """The number of rows, those within others too."""
    many = len(rows)
    for row in rows:
        many = many + sum([many_rows(part) for kind, part in row_parts(row) if kind == "rows"])
    return many
