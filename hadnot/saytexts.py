"""Texts of expressions and sayings."""

from hadnot.errors import InvalidText
from hadnot.lines import Line
from hadnot.phrases import ROWS, expression_parts, row_parts


def show_expression(expression):
    """The text of an expression."""
    return " ".join(expression_words(expression))


def expression_words(expression):
    """The words of an expression."""
    if isinstance(expression, int):
        return [str(expression)]
    if isinstance(expression, str):
        return [f"@{expression}"]
    if expression[0] == "word":
        return [f"'{expression[1]}"]
    if expression[0] == "my":
        return [f"${expression[1]}"]
    words = [expression[0]]
    for kind, part in expression_parts(expression):
        words.extend(part_words(kind, part))
    return words


def part_words(kind, part):
    """The words of a part of an expression or a row."""
    if kind == "expression":
        return expression_words(part)
    if kind == "expressions":
        words = [str(len(part))]
        for value in part:
            words.extend(expression_words(value))
        return words
    return [str(part)]


def show_saying(saying):
    """The text of a saying."""
    return "\n".join(saying_lines(saying))


def saying_lines(rows):
    """The lines of rows."""
    lines = []
    for row in rows:
        lines.extend(row_lines(row))
    return lines


def row_lines(row):
    """The lines of a row, with those of the rows in it."""
    words = [row[0]]
    blocks = []
    for kind, part in row_parts(row):
        if kind == "rows":
            blocks.append(part)
        else:
            words.extend(part_words(kind, part))
    lines = [" ".join(words)]
    if blocks:
        lines.extend(saying_lines(blocks[0]))
        if blocks[1:] and blocks[1]:
            lines.append("else")
            lines.extend(saying_lines(blocks[1]))
        lines.append("end")
    return lines


def read_expression(text):
    """The expression of a text."""
    lines = text.split("\n")
    line = Line(lines[0], 0)
    expression = line.expression()
    line.close()
    if len(lines) > 1:
        raise InvalidText(1)
    return expression


def read_saying(text):
    """The saying of a text."""
    if text == "":
        return ()
    lines = text.split("\n")
    blocks = Blocks()
    for number, line in enumerate(lines):
        if line == "else":
            blocks.turn(number)
        elif line == "end":
            blocks.end(number)
        else:
            blocks.begin(read_row(line, number))
    if len(blocks.heads) > 1:
        raise InvalidText(len(lines))
    return tuple(blocks.rows[0])


def read_row(text, number):
    """The parts of the row that a line tells, but for the rows in it."""
    line = Line(text, number)
    word = line.word()
    line.check(word in ROWS)
    parts = [line.part(kind) for kind in ROWS[word] if kind != "rows"]
    line.close()
    return (word, *parts)


class Blocks:
    """The rows that are read so far, in the saying and in each if and each that is open."""

    def __init__(self):
        # The parts so far of the row around each block, () for the saying.
        self.heads = [()]
        self.rows = [[]]

    def begin(self, row):
        """Put a row in, and open it if rows stand in it."""
        if row[0] in ("if", "each"):
            self.heads.append(row)
            self.rows.append([])
        else:
            self.rows[-1].append(row)

    def turn(self, number):
        """Go over to the second rows of an if, at the line with this number."""
        head = self.heads[-1]
        # With its first rows an if has three parts.
        if head[:1] != ("if",) or len(head) > 2:
            raise InvalidText(number)
        self.heads[-1] = (*head, tuple(self.rows[-1]))
        self.rows[-1] = []

    def end(self, number):
        """Close the innermost row, at the line with this number."""
        if len(self.heads) == 1:
            raise InvalidText(number)
        head = self.heads.pop()
        row = (*head, tuple(self.rows.pop()))
        if row[0] == "if" and len(row) == 3:
            row = (*row, ())
        self.rows[-1].append(row)
