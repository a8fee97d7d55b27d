"""Lines of texts, read word by word."""

from hadnot.errors import InvalidText
from hadnot.phrases import EXPRESSIONS
from hadnot.values import is_choice_name, is_decimal, is_name

MOST_DIGITS = 18
MOST_NUMBER = 10 ** 18 - 1
# Behind MANY at most 9 expressions stand, and options are below 4.
MOST_MANY = 9
MOST_OPTION = 3


class Line:
    """The words of one line, taken from the left.

    Where a word cannot stand, InvalidText tells the number of the line.
    """

    def __init__(self, text, row):
        self.words = text.split(" ")
        self.row = row
        self.taken = 0

    def word(self):
        """The next word."""
        self.check(self.taken < len(self.words))
        self.taken = self.taken + 1
        return self.words[self.taken - 1]

    def ahead(self):
        """The next word, which is not taken yet; None at the end."""
        return self.words[self.taken] if self.taken < len(self.words) else None

    def rest(self):
        """All words that are left, as a text; there is one at least."""
        self.check(self.taken < len(self.words))
        text = " ".join(self.words[self.taken:])
        self.taken = len(self.words)
        return text

    def check(self, holds):
        """Refuse the line unless something holds."""
        if not holds:
            raise InvalidText(self.row)

    def close(self):
        """Refuse the line if words are left."""
        self.check(self.taken == len(self.words))

    def part(self, kind):
        """The next part, of one of the kinds of hadnot.phrases."""
        if kind == "expression":
            return self.expression()
        if kind == "expressions":
            return tuple([self.expression() for _ in range(self.decimal(MOST_MANY))])
        if kind == "option":
            return self.decimal(MOST_OPTION)
        word = self.word()
        self.check(is_choice_name(word) if kind == "choice" else is_name(word))
        return word

    def decimal(self, most):
        """A number from 0 to a most one."""
        word = self.word()
        self.check(is_decimal(word, MOST_DIGITS) and int(word) <= most)
        return int(word)

    def expression(self):
        """An expression."""
        word = self.word()
        sign, rest = word[:1], word[1:]
        if sign in ("'", "@", "$"):
            self.check(is_name(rest))
            return signed_expression(sign, rest)
        if word in EXPRESSIONS:
            parts = [self.part(kind) for kind in EXPRESSIONS[word]]
            # In a call the values stand one by one.
            return (word, parts[0], *parts[1]) if word == "call" else (word, *parts)
        self.check(is_number_text(word))
        return int(word)


def signed_expression(sign, name):
    """The expression that is written with a sign in front of a name."""
    if sign == "@":
        return name
    return ("word" if sign == "'" else "my", name)


def is_number_text(word):
    """Whether a word is a number as texts have it."""
    if word[:1] == "-":
        return word != "-0" and is_decimal(word[1:], MOST_DIGITS)
    return is_decimal(word, MOST_DIGITS)
