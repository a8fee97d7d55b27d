"""A desk: a book that is asked and changed by commands."""

from hadnot.books import Book
from hadnot.commands import read_command
from hadnot.days import Day, Deed
from hadnot.errors import InvalidCommand, UnknownName
from hadnot.opened import closed, opened
from hadnot.shares import shares
from hadnot.turning import turning_sets
from hadnot.values import show
from hadnot.wishes import cheapest

# So many turning sets are told.
MOST_SETS = 5


class Desk:
    """A book, at first of the empty day."""

    def __init__(self):
        self._book = Book(Day())

    def say(self, command):
        """Do a command; its text."""
        word, parts = read_command(command)
        if word == "undo":
            return "undone" if self._book.undo() else "nothing"
        if word in EDITS:
            edit = EDITS[word]
            told = self._book.change(edit(self._book.day, *parts))
            return f"{len(told)} changes"
        answer = ANSWERS[word]
        return answer(self._book, *parts)

    def __len__(self):
        return len(self._book.day)


def put_table(day, name, parts):
    return day.with_table(name, parts)


def put_choice(day, name, many):
    return day.with_choice(name, many)


def put_cell(day, name, value):
    return day.with_cell(name, value)


def put_rule(day, name, params, expression):
    return day.with_rule(name, params, expression)


def put_deed(day, name, choice, sayings):
    return day.with_deed(Deed(name, sayings, choice))


def take_deed(day, name):
    return day.without_deed(name)


def move_deed(day, name, place):
    if place != 0 and place >= len(day):
        raise InvalidCommand()
    return day.moved(name, place)


def stand_choice(day, name, option):
    check_options(day, [(name, option)])
    return day.stands(name, option)


def open_deed(day, name):
    return opened(day, name)


def close_deed(day, name):
    return closed(day, name)


EDITS = {
    "table": put_table,
    "choice": put_choice,
    "cell": put_cell,
    "rule": put_rule,
    "deed": put_deed,
    "take": take_deed,
    "move": move_deed,
    "stand": stand_choice,
    "open": open_deed,
    "close": close_deed,
}


def check_options(day, pairs):
    """Refuse an option that its choice does not have."""
    for name, option in pairs:
        if name in day.choices and not day.choices.has_option(name, option):
            raise InvalidCommand()


def other_world(day, pairs):
    """The world that differs from the standing one in some pairs."""
    check_options(day, pairs)
    world = day.standing
    for name, option in pairs:
        if name not in day.choices:
            raise UnknownName(name)
        world[name] = option
    return world


def worth_text(book, cell):
    return str(book.lift.value(cell))


def ask_text(book, expression):
    return str(book.lift.ask(expression))


def if_text(book, pairs, expression):
    return show(book.view(other_world(book.day, pairs)).ask(expression))


def why_text(book, expression):
    worth, standing = book.lift.ask(expression), book.day.standing
    told = []
    for pairs in turning_sets(worth, standing):
        told.append(" + ".join([f"{name} {option}" for name, option in pairs]))
        if len(told) == MOST_SETS:
            break
    return " ; ".join(told) if told else "never"


def wish_text(book, expression):
    found = cheapest(book.lift.ask(expression), book.day.standing, book.day.prices)
    if found is None:
        return "never"
    price, pairs = found
    return " ".join([str(price), *[f"{name} {option}" for name, option in pairs]])


def share_text(book, expression, pairs):
    world = other_world(book.day, pairs)
    ratios = shares(book.lift.ask(expression), book.day.standing, world)
    names = [name for name in book.day.choices.names if name in ratios]
    return " ; ".join([f"{name} {str(ratios[name])}" for name in names])


ANSWERS = {
    "worth": worth_text,
    "ask": ask_text,
    "if": if_text,
    "why": why_text,
    "wish": wish_text,
    "share": share_text,
}
