"""Commands of a desk, read word by word."""

from hadnot.daytexts import MOST_OPTIONS, read_name, read_rule, read_table, read_value
from hadnot.errors import InvalidCommand, InvalidText
from hadnot.lines import Line, MOST_NUMBER, MOST_OPTION
from hadnot.saytexts import read_saying


def read_command(text):
    """The first word of a command and the tuple of what stands behind it."""
    # A saying has other signs in the place of line feeds.
    if "\n" in text:
        raise InvalidCommand()
    line = Line(text, 0)
    try:
        word = line.word()
        line.check(word in READERS)
        reader = READERS[word]
        parts = reader(line)
        line.close()
    except InvalidText:
        raise InvalidCommand() from None
    return word, parts


def read_parts(line):
    return read_table(line)


def read_choice(line):
    name = read_name(line)
    many = line.decimal(MOST_OPTIONS)
    line.check(many >= 2)
    return name, many


def read_cell(line):
    name = read_name(line)
    if line.ahead() == "none":
        line.word()
        return name, None
    return name, read_value(line)


def read_body(line):
    return read_rule(line)


def read_deed(line):
    name = read_name(line)
    choice = None
    if line.ahead() == "by":
        line.word()
        choice = read_name(line)
    line.check(line.word() == ":")
    sayings = tuple([read_one_saying(text, line) for text in line.rest().split(" | ")])
    return name, choice, sayings


def read_one_saying(text, line):
    """The saying of a text in a line."""
    # The empty text is a saying elsewhere.
    line.check(text != "")
    return () if text == "-" else read_saying(text.replace(" ; ", "\n"))


def read_move(line):
    return read_name(line), line.decimal(MOST_NUMBER)


def read_stand(line):
    return line.part("choice"), line.decimal(MOST_OPTION)


def read_one_name(line):
    return (read_name(line),)


def read_nothing(line):
    return ()


def read_expression_alone(line):
    return (line.expression(),)


def read_if(line):
    pairs = read_pairs(line, ":")
    line.word()
    return pairs, line.expression()


def read_share(line):
    expression = line.expression()
    line.check(line.word() == "by")
    return expression, read_pairs(line, None)


def read_pairs(line, end):
    """The choices with their options up to a word, which is not taken, or to the end of the line."""
    pairs = []
    while line.ahead() not in (None, end):
        pairs.append((line.part("choice"), line.decimal(MOST_OPTION)))
    names = {name: True for name, _ in pairs}
    line.check(len(pairs) > 0 and len(names) == len(pairs))
    return tuple(pairs)


READERS = {
    "table": read_parts,
    "choice": read_choice,
    "cell": read_cell,
    "rule": read_body,
    "deed": read_deed,
    "take": read_one_name,
    "move": read_move,
    "stand": read_stand,
    "open": read_one_name,
    "close": read_one_name,
    "undo": read_nothing,
    "worth": read_one_name,
    "ask": read_expression_alone,
    "if": read_if,
    "why": read_expression_alone,
    "wish": read_expression_alone,
    "share": read_share,
}
