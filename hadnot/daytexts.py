"""Texts of days."""

from hadnot.days import Deed, draft, finished
from hadnot.errors import InvalidText
from hadnot.lines import Line, MOST_MANY, MOST_OPTION, is_number_text
from hadnot.saytexts import Blocks, expression_words, read_row, saying_lines
from hadnot.values import in_order, is_name, show

MOST_PARTS = 4
MOST_OPTIONS = 4
MOST_PRICE = 10 ** 9
# The kinds of lines, as they follow upon each other.
KINDS = ("table", "choice", "cell", "row", "rule", "deed")


def show_day(day):
    """The text of a day."""
    lines = []
    tables = day.all_tables
    for table in sorted(list(tables)):
        lines.append(" ".join(["table", table, *tables[table]]))
    lines.extend(choice_lines(day))
    cells = day.all_cells
    for cell in sorted(list(cells)):
        lines.append(" ".join(["cell", cell, *cell_words(cells[cell])]))
    lines.extend(table_lines(day))
    for name, params, expression in day.rules:
        lines.append(" ".join(["rule", name, str(len(params)), *params, *expression_words(expression)]))
    for deed in day.deeds:
        lines.extend(deed_lines(deed))
    return "\n".join(lines)


def choice_lines(day):
    """The lines of the choices."""
    lines = []
    for name in day.choices.names:
        numbers = [day.choices[name], day.standing[name], *day.prices[name]]
        lines.append(" ".join(["choice", name, *[str(number) for number in numbers]]))
    return lines


def cell_words(value):
    """The words of what a cell is in the beginning."""
    if not isinstance(value, tuple):
        return [show(value)]
    choice, values = value
    return ["by", choice, *[show(part) for part in values]]


def table_lines(day):
    """The lines of the rows of tables."""
    rows = day.all_rows
    lines = []
    for table in sorted(list(day.all_tables)):
        for key in in_order([key for other, key in rows if other == table]):
            values, only = rows[table, key]
            words = [show(value) for value in [key, *values]]
            lines.append(" ".join(["row", table, *words, *pair_words(only)]))
    return lines


def pair_words(pairs):
    """The words of choices and their options."""
    words = []
    for choice, option in pairs:
        words.extend(["with", choice, str(option)])
    return words


def deed_lines(deed):
    """The lines of a deed."""
    words = ["deed", deed.name]
    if deed.choice is not None:
        words.extend(["by", deed.choice])
    lines = [" ".join([*words, *pair_words(deed.only)])]
    for at, saying in enumerate(deed.sayings):
        if at > 0:
            lines.append("or")
        lines.extend(saying_lines(saying))
    lines.append("close")
    return lines


def read_day(text):
    """The day of a text."""
    day = draft()
    for told in read_lines(text):
        word, parts = told[0], told[1:]
        addition = ADDITIONS[word]
        day = addition(day, *parts)
    return finished(day)


def read_lines(text):
    """What the lines of a text tell: tuples of the kind of a line and its parts."""
    if text == "":
        return []
    lines = text.split("\n")
    told = []
    number = 0
    place = 0
    while number < len(lines):
        line = Line(lines[number], number)
        word = line.word()
        line.check(word in KINDS[place:])
        place = KINDS.index(word)
        reader = READERS[word]
        parts = reader(line)
        line.close()
        number = number + 1
        if word == "deed":
            sayings, number = read_sayings(lines, number, parts[1] is not None)
            parts = (*parts, sayings)
        told.append((word, *parts))
    return told


def read_sayings(lines, number, many):
    """The sayings of a deed, and the number of the line behind it; several only if so told."""
    sayings = []
    blocks = Blocks()
    while number < len(lines):
        text = lines[number]
        if text == "else":
            blocks.turn(number)
        elif text == "end":
            blocks.end(number)
        elif text not in ("or", "close"):
            blocks.begin(read_row(text, number))
        elif len(blocks.heads) > 1 or (text == "or" and not many):
            raise InvalidText(number)
        else:
            sayings.append(tuple(blocks.rows[0]))
            blocks = Blocks()
        number = number + 1
        if text == "close":
            return tuple(sayings), number
    raise InvalidText(len(lines))


def read_name(line):
    """The next word, a name."""
    word = line.word()
    line.check(is_name(word))
    return word


def read_value(line):
    """The next word, a number or a word."""
    word = line.word()
    if word[:1] == "'":
        line.check(is_name(word[1:]))
        return word[1:]
    line.check(is_number_text(word))
    return int(word)


def read_pairs(line):
    """The choices and options up to the end of the line."""
    pairs = []
    while line.ahead() is not None:
        line.check(line.word() == "with")
        pairs.append((read_name(line), line.decimal(MOST_OPTION)))
    return tuple(pairs)


def read_table(line):
    name = read_name(line)
    parts = [read_name(line)]
    while line.ahead() is not None:
        parts.append(read_name(line))
    line.check(len(parts) <= MOST_PARTS and len(set(parts)) == len(parts))
    return name, tuple(parts)


def read_choice(line):
    name = read_name(line)
    many = line.decimal(MOST_OPTIONS)
    line.check(many >= 2)
    option = line.decimal(many - 1)
    return name, many, option, tuple([line.decimal(MOST_PRICE) for _ in range(many)])


def read_cell(line):
    name = read_name(line)
    if line.ahead() != "by":
        return name, read_value(line), None
    line.word()
    choice = read_name(line)
    values = []
    while line.ahead() is not None:
        if line.ahead() == "none":
            line.word()
            values.append(None)
        else:
            values.append(read_value(line))
    line.check(2 <= len(values) <= MOST_OPTIONS)
    return name, tuple(values), choice


def read_table_row(line):
    name = read_name(line)
    key = read_value(line)
    values = [read_value(line)]
    while line.ahead() not in (None, "with"):
        values.append(read_value(line))
    line.check(len(values) <= MOST_PARTS)
    return name, key, tuple(values), read_pairs(line)


def read_rule(line):
    name = read_name(line)
    params = [read_name(line) for _ in range(line.decimal(MOST_MANY))]
    return name, tuple(params), line.expression()


def read_deed(line):
    name = read_name(line)
    choice = None
    if line.ahead() == "by":
        line.word()
        choice = read_name(line)
    return name, choice, read_pairs(line)


READERS = {
    "table": read_table,
    "choice": read_choice,
    "cell": read_cell,
    "row": read_table_row,
    "rule": read_rule,
    "deed": read_deed,
}


def add_table(day, name, parts):
    return day.with_table(name, parts)


def add_choice(day, name, many, option, prices):
    return day.with_choice(name, many, prices=prices).stands(name, option)


def add_cell(day, name, value, choice):
    return day.with_cell(name, value, choice=choice)


def add_row(day, table, key, values, only):
    return day.with_row(table, key, values, only=only)


def add_rule(day, name, params, expression):
    return day.with_rule(name, params, expression)


def add_deed(day, name, choice, only, sayings):
    return day.with_deed(Deed(name, sayings, choice, only))


ADDITIONS = {
    "table": add_table,
    "choice": add_choice,
    "cell": add_cell,
    "row": add_row,
    "rule": add_rule,
    "deed": add_deed,
}
