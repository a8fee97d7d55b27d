"""Days, expressions and questions at random, small enough for all worlds."""

import random

from hadnot.days import Day, Deed

CELLS = ("x", "y", "z")
TABLES = {"t": ("a", "b"), "u": ("c",)}
LOCALS = ("v", "w")
KEYS = (0, 1, 2, "k")


class Maker:
    """Makes parts of days; what it names is there."""

    def __init__(self, seed):
        self.rows = random.Random(seed)
        self.options = {}
        self.rules = {}
        self.deeds = []
        self.loops = []

    def pick(self, values):
        return self.rows.choice(list(values))

    def likely(self, chance):
        return self.rows.random() < chance

    def pair(self):
        name = self.pick(self.options)
        return name, self.rows.randrange(self.options[name])

    def value(self):
        return self.pick((0, 1, 2, -1, 3, "k", "j", 10 ** 18 - 1) if self.likely(0.2) else (0, 1, 2, 1, 2, 3))

    def key(self, depth):
        if self.loops and self.likely(0.5):
            return ("my", self.pick(self.loops))
        if self.likely(0.6):
            key = self.pick(KEYS)
            return ("word", key) if isinstance(key, str) else key
        return self.number(depth - 1)

    def number(self, depth):
        if depth <= 0 or self.likely(0.3):
            if self.loops and self.likely(0.4):
                return ("my", self.pick(self.loops))
            if self.likely(0.1):
                return self.pick(("z", ("my", self.pick(LOCALS)), ("word", self.pick("jk"))))
            return self.pick((self.rows.randrange(-1, 4), self.rows.randrange(4), "x", "y"))
        table = self.pick(TABLES)
        form = self.pick(("+", "-", "*", "least", "most", "part", "when", "call", "sum", "low", "high", "count", "any"))
        if form == "part":
            return ("part", table, self.key(depth), self.pick(TABLES[table]))
        if form == "when":
            return ("when", self.truth(depth - 1), self.number(depth - 1), self.number(depth - 1))
        if form == "call" and self.rules:
            rule = self.pick(self.rules)
            return ("call", rule, *[self.number(depth - 1) for _ in range(self.rules[rule])])
        if form in ("sum", "low", "high", "count"):
            local = self.pick(LOCALS)
            self.loops.append(local)
            made = (form, local, table, self.truth(depth - 1))
            if form != "count":
                made = (*made, self.number(depth - 1))
            self.loops.pop()
            return made
        if form == "any" and self.likely(0.2):
            return self.truth(depth - 1)
        sign = form if form in ("+", "-", "*", "least", "most") else "+"
        return (sign, self.number(depth - 1), self.number(depth - 1))

    def truth(self, depth):
        form = self.pick(("has", "stands", "done", "chosen", "chosen", "chosen"))
        if depth > 0 and self.likely(0.7):
            form = self.pick(("<", "<", "=", "and", "or", "not", "when", "wrong"))
        if form == "has":
            return ("has", self.pick(CELLS))
        if form == "stands":
            return ("stands", self.pick(TABLES), self.key(depth))
        if form == "done" and self.deeds:
            return ("done", self.pick(self.deeds))
        if form in ("<", "="):
            return (form, self.number(depth - 1), self.number(depth - 1))
        if form in ("and", "or"):
            return (form, self.truth(depth - 1), self.truth(depth - 1))
        if form == "not":
            return ("not", self.truth(depth - 1))
        if form == "when":
            return ("when", self.truth(depth - 1), self.truth(depth - 1), self.truth(depth - 1))
        if form == "wrong" and self.likely(0.3):
            return self.number(depth - 1)
        return ("chosen", *self.pair())

    def row(self, depth):
        form = self.pick(("let", "put", "put", "drop", "insert", "change", "delete", "if", "if", "each", "need", "tell",
                          "tell"))
        table = self.pick(TABLES)
        if form in ("if", "each") and depth <= 0:
            form = "tell"
        if form == "let":
            return ("let", self.pick(LOCALS), self.pick((self.number, self.truth))(2))
        if form == "put":
            return ("put", self.pick(CELLS), self.number(2))
        if form == "drop":
            return ("drop", self.pick(CELLS))
        if form == "insert":
            return ("insert", table, self.key(2), tuple(self.number(1) for _ in TABLES[table]))
        if form == "change":
            return ("change", table, self.key(2), self.pick(TABLES[table]), self.number(2))
        if form == "delete":
            return ("delete", table, self.key(2))
        if form == "if":
            return ("if", self.truth(2), self.saying(depth - 1, 2), self.saying(depth - 1, 2))
        if form == "each":
            local = self.pick(LOCALS)
            self.loops.append(local)
            rows = self.saying(depth - 1, 3)
            self.loops.pop()
            return ("each", local, table, rows)
        if form == "need":
            return ("need", ("or", self.truth(1), self.truth(2)))
        return ("tell", self.pick((self.number, self.truth))(2))

    def saying(self, depth, most):
        return tuple(self.row(depth) for _ in range(self.rows.randrange(most + 1)))

    def only(self):
        return tuple(self.pair() for _ in range(self.rows.choice((0, 0, 0, 1, 2))))

    def day(self, choices=4, deeds=4):
        day = Day()
        for at in range(choices):
            name = f"c{at}"
            self.options[name] = self.rows.choice((2, 2, 3))
            day = day.with_choice(name, self.options[name])
        for cell in CELLS[:2]:
            name = self.pick(self.options)
            values = tuple(None if self.likely(0.15) else self.value() for _ in range(self.options[name]))
            day = day.with_cell(cell, values, choice=name) if self.likely(0.6) else day.with_cell(cell, self.value())
        for table, parts in TABLES.items():
            day = day.with_table(table, parts)
            for key in KEYS[:3]:
                if self.likely(0.6):
                    day = day.with_row(table, key, tuple(self.value() for _ in parts), only=self.only())
        for rule in ("f", "g"):
            many = self.rows.randrange(3)
            day = day.with_rule(rule, LOCALS[:many], self.number(2))
            self.rules[rule] = many
        for at in range(deeds):
            name = f"d{at}"
            choice = self.pick(self.options) if self.likely(0.6) else None
            sayings = [self.saying(2, 5) for _ in range(1 if choice is None else self.options[choice])]
            day = day.with_deed(Deed(name, sayings, choice, self.only() if self.likely(0.5) else ()))
            self.deeds.append(name)
        return day

    def question(self):
        if self.likely(0.5):
            tables = [self.pick(TABLES) for _ in range(self.rows.choice((1, 2)))]
            pairs = tuple(zip(LOCALS, tables))
            self.loops = [local for local, _ in pairs]
            made = ("rows", pairs, self.truth(2), tuple(self.number(2) for _ in range(self.rows.randrange(3))))
        else:
            self.loops = ["v"]
            how = self.pick(("count", "sum", "low", "high"))
            made = ("groups", "v", self.pick(TABLES), self.truth(1), self.number(2), how,
                    None if how == "count" else self.number(1))
        self.loops = []
        return made

