"""Where a day is too wide, by the words of [28]: each world is run alone and leaves a trace.

A row is at a place: its number and the keys of the loops around it. Behind it all
that [28] names is put together from the traces, and its nodes are counted.
"""

from helpers import all_worlds, ordered, same


class Stop(Exception):
    pass


def nodes(values, many):
    """The number of nodes of a function with these values in the worlds in their order."""
    numbers = {}
    row = [numbers.setdefault(repr(value), len(numbers)) for value in values]
    for level, options in reversed(list(enumerate(many))):
        groups = [tuple(row[at:at + options]) for at in range(0, len(row), options)]
        row = [group[0] if len(set(group)) == 1 else numbers.setdefault((level, group), len(numbers))
               for group in groups]
    return len(numbers)


class Trace:
    """The run of one deed in one world, but for rows that are left out."""

    def __init__(self, day, world, book, done, left=()):
        self.day, self.world, self.done, self.left = day, world, done, left
        self.rules = {name: (params, body) for name, params, body in day.rules}
        self.cells = dict(book[0])
        self.tables = {table: dict(rows) for table, rows in book[1].items()}
        self.local = {}
        # What was seen at each place, and what stood behind it.
        self.seen, self.behind, self.turns, self.ends = {}, {}, set(), {}
        self.stop = None

    def book(self):
        return dict(self.cells), {table: dict(rows) for table, rows in self.tables.items()}

    def fault(self, word):
        raise Stop(word)

    def run(self, saying):
        self.place = None
        try:
            self.go(saying, 0, ())
        except Stop as stop:
            self.stop = (self.place[0], stop.args[0])
            self.behind[self.place] = (self.book(), dict(self.local))
        return self

    def go(self, rows, number, keys):
        for row in rows:
            if number not in self.left:
                self.place = (number, keys)
                self.seen[self.place] = {}
                self.do(row, number, keys)
            number += length(row)

    def close(self):
        self.behind[self.place] = (self.book(), dict(self.local))

    def do(self, row, number, keys):
        word = row[0]
        if word == "let":
            self.local[row[1]] = self.value(row[2], (2,), self.local)
        elif word == "put":
            self.cells[row[1]] = self.plain(self.value(row[2], (2,), self.local))
        elif word == "drop":
            if row[1] not in self.cells:
                self.fault("missing")
            del self.cells[row[1]]
        elif word == "insert":
            key = self.value(row[2], (2,), self.local)
            parts = [self.value(part, (3, at), self.local) for at, part in enumerate(row[3])]
            for value in (key, *parts):
                self.plain(value)
            if key in self.tables[row[1]]:
                self.fault("there")
            self.tables[row[1]][key] = tuple(parts)
        elif word in ("change", "delete"):
            key = self.value(row[2], (2,), self.local)
            new = None if word == "delete" else self.value(row[4], (4,), self.local)
            self.plain(key), self.plain(new)
            if key not in self.tables[row[1]]:
                self.fault("missing")
            old = self.tables[row[1]].pop(key)
            if word == "change":
                at = self.day.all_tables[row[1]].index(row[3])
                self.tables[row[1]][key] = old[:at] + (new,) + old[at + 1:]
        elif word == "if":
            holds = self.truth(self.value(row[1], (1,), self.local))
            self.close()
            first = sum(length(part) for part in row[2])
            return self.go(row[2], number + 1, keys) if holds else self.go(row[3], number + 1 + first, keys)
        elif word == "each":
            self.close()
            before = dict(self.local)
            for key in ordered(self.tables[row[2]]):
                self.local[row[1]] = key
                self.turns.add((number, (*keys, key)))
                self.go(row[3], number + 1, (*keys, key))
            self.local.pop(row[1], None)
            if row[1] in before:
                self.local[row[1]] = before[row[1]]
            self.ends[number, keys] = dict(self.local)
            return
        elif word == "need":
            if not self.truth(self.value(row[1], (1,), self.local)):
                self.fault("need")
        else:
            self.value(row[1], (1,), self.local)
        self.close()

    def plain(self, value):
        return self.fault("kind") if isinstance(value, bool) else value

    def truth(self, value):
        return value if isinstance(value, bool) else self.fault("kind")

    def value(self, e, path, local):
        found = self.found(e, path, local)
        self.seen[self.place][path] = found
        return found

    def found(self, e, path, local):
        if isinstance(e, int):
            return e
        if isinstance(e, str):
            return self.cells[e] if e in self.cells else self.fault("missing")
        word = e[0]
        sub = lambda at: self.value(e[at], (*path, at), local)
        if word == "word":
            return e[1]
        if word == "my":
            return local[e[1]] if e[1] in local else self.fault("missing")
        if word in ("part", "stands"):
            key = self.plain(sub(2))
            rows = self.tables[e[1]]
            if word == "stands":
                return key in rows
            return rows[key][self.day.all_tables[e[1]].index(e[3])] if key in rows else self.fault("missing")
        if word == "has":
            return e[1] in self.cells
        if word == "done":
            return self.done[e[1]]
        if word == "chosen":
            return self.world[e[1]] == e[2]
        if word in ("and", "or"):
            one = self.truth(sub(1))
            return self.truth(sub(2)) if one == (word == "and") else one
        if word == "not":
            return not self.truth(sub(1))
        if word == "when":
            return sub(2) if self.truth(sub(1)) else sub(3)
        if word == "call":
            params, body = self.rules[e[1]]
            values = [sub(at) for at in range(2, len(e))]
            return self.value(body, (*path, "body"), dict(zip(params, values)))
        if word in ("count", "sum", "low", "high"):
            return self.rows(e, path, local)
        return self.worked(word, sub(1), sub(2))

    def worked(self, word, one, other):
        kinds = (type(one), type(other))
        if word == "=":
            return one == other if kinds[0] is kinds[1] else self.fault("kind")
        if word == "<" and kinds == (str, str):
            return one < other
        if kinds != (int, int):
            self.fault("kind")
        if word == "<":
            return one < other
        if word in ("least", "most"):
            return min(one, other) if word == "least" else max(one, other)
        return self.small({"+": one + other, "-": one - other, "*": one * other}[word])

    def small(self, number):
        return number if abs(number) < 10 ** 18 else self.fault("great")

    def rows(self, e, path, local):
        total = 0 if e[0] in ("count", "sum") else None
        # A list of keys and totals; the last one stays None if the row has a fault.
        so_far = self.seen[self.place].setdefault((*path, "so far"), [(None, total)])
        for key in ordered(self.tables[e[2]]):
            so_far.append((key, None))
            inner = {**local, e[1]: key}
            if self.truth(self.value(e[3], (*path, key, 3), inner)):
                if e[0] == "count":
                    total += 1
                else:
                    value = self.value(e[4], (*path, key, 4), inner)
                    if type(value) is not int:
                        self.fault("kind")
                    if e[0] == "sum":
                        total = self.small(total + value)
                    else:
                        total = value if total is None else min(total, value) if e[0] == "low" else max(total, value)
            so_far[-1] = (key, total)
        return self.fault("missing") if total is None else total


def length(row):
    parts = row[2:4] if row[0] == "if" else row[3:4] if row[0] == "each" else ()
    return 1 + sum(length(inner) for part in parts for inner in part)


class TooWideHere(Exception):
    pass


class Wide:
    """The first row at which a day has a worth of more than so many nodes."""

    def __init__(self, day, most, keys=16):
        self.day, self.most, self.keys = day, most, keys
        self.worlds = all_worlds(day.choices)
        self.many = [day.choices[name] for name in day.choices.names]

    def place(self):
        books = [beginning(self.day, world) for world in self.worlds]
        done = [{} for _ in self.worlds]
        try:
            for deed in self.day.deeds:
                books = self.deed(deed, books, done)
        except TooWideHere as here:
            return here.args
        return None

    def look(self, values, row):
        if nodes(list(values), self.many) > self.most:
            raise TooWideHere(self.name, row)

    def deed(self, deed, books, done):
        self.name = deed.name
        start, self.books = books, list(books)
        self.stops = [None] * len(books)
        ran = [None] * len(books)
        for option, saying in enumerate(deed.sayings):
            self.traces = {}
            for at, world in enumerate(self.worlds):
                if all(world[name] == value for name, value in deed.only) and (
                        deed.choice is None or world[deed.choice] == option):
                    left = [row for row in range(60) if deed.opened == option and world.get(f"{deed.name}.{row}") == 1]
                    self.traces[at] = Trace(self.day, world, start[at], done[at], left).run(saying)
            self.locals = {at: {} for at in self.traces}
            self.around = []
            self.walk(saying, 0, ())
            for at, trace in self.traces.items():
                ran[at] = len(saying) > 0
        final = [old if stop else new for old, new, stop in zip(start, self.books, self.stops)]
        for at in range(len(final)):
            done[at] = {**done[at], deed.name: bool(ran[at]) and self.stops[at] is None}
        end = max(sum(length(row) for row in saying) for saying in deed.sayings)
        self.books = final
        for slot in {slot for book in final for slot in slots(book)}:
            self.look_at_slot(slot, end)
        self.look_at_keys(end)
        return final

    def look_at_slot(self, slot, row):
        self.look([slot_value(book, slot) for book in self.books], row)

    def look_at_keys(self, row):
        for table in self.day.all_tables:
            if len({key for _, tables in self.books for key in tables[table]}) > self.keys:
                raise TooWideHere(self.name, row)

    def walk(self, rows, number, keys):
        for row in rows:
            place = (number, keys)
            here = {at: trace for at, trace in self.traces.items() if place in trace.seen}
            if here:
                self.row(row, place, here)
                if row[0] == "if":
                    self.walk(row[2], number + 1, keys)
                    self.walk(row[3], number + 1 + sum(length(inner) for inner in row[2]), keys)
                if row[0] == "each":
                    stood = {key for trace in self.traces.values() for turn, key in trace.turns
                             if turn == number and key[:-1] == keys}
                    for key in ordered([key[-1] for key in stood]):
                        self.around.append((row[1], (number, (*keys, key))))
                        for at, trace in self.traces.items():
                            if self.around[-1][1] in trace.turns:
                                self.locals[at] = {**self.locals[at], row[1]: key}
                        self.walk(row[3], number + 1, (*keys, key))
                        self.around.pop()
                    for at, trace in here.items():
                        self.locals[at] = trace.ends.get(place, self.locals[at])
            number += length(row)

    def row(self, row, place, here):
        number = place[0]
        self.look([at in here for at in range(len(self.worlds))], number)
        self.look_at_expressions(place, here)
        before = self.books
        self.books = list(before)
        for at, trace in here.items():
            self.books[at], self.locals[at] = trace.behind[place]
            if trace.stop is not None and trace.place == place:
                self.stops[at] = trace.stop
        self.look(self.stops, number)
        for slot in {slot for at in here for slot in [*slots(before[at]), *slots(self.books[at])]}:
            if any(not same(slot_value(before[at], slot), slot_value(self.books[at], slot)) for at in here):
                self.look_at_slot(slot, number)
        if row[0] == "let":
            turns = [turn for name, turn in self.around if name == row[1]]
            values = []
            for at in range(len(self.worlds)):
                trace = self.traces.get(at)
                taken = trace is not None and self.stops[at] is None and (not turns or turns[-1] in trace.turns)
                values.append(self.locals[at].get(row[1]) if taken else None)
            self.look(values, number)
        self.look_at_keys(number)

    def look_at_expressions(self, place, here):
        for path in {path for trace in here.values() for path in trace.seen[place]}:
            if path[-1] != "so far":
                self.look([here[at].seen[place].get(path) if at in here else None for at in range(len(self.worlds))],
                          place[0])
                continue
            lists = {at: trace.seen[place][path] for at, trace in here.items() if path in trace.seen[place]}
            for key in ordered([key for rows in lists.values() for key, _ in rows[1:]]):
                self.look([total_at(lists.get(at), key, path, here.get(at), place) for at in range(len(self.worlds))],
                          place[0])


def total_at(rows, key, path, trace, place):
    """The total behind a key, None at a fault and where the expression is not evaluated."""
    if rows is None:
        return None
    order = ordered([key, *[other for other, _ in rows[1:]]])
    total = rows[0][1]
    faulted = path[:-1] not in trace.seen[place]
    for other, value in rows[1:]:
        if order.index(other) <= order.index(key):
            total = value
    # A row at which count or sum comes to a fault is the last one.
    last = rows[-1][0] if faulted else None
    if last is not None and rows[-1][1] is None and order.index(last) <= order.index(key):
        return None
    return total


def beginning(day, world):
    cells = {}
    for name, value in day.all_cells.items():
        value = value[1][world[value[0]]] if isinstance(value, tuple) else value
        if value is not None:
            cells[name] = value
    tables = {table: {} for table in day.all_tables}
    for (table, key), (values, only) in day.all_rows.items():
        if all(world[name] == option for name, option in only):
            tables[table][key] = values
    return cells, tables


def slots(book):
    cells, tables = book
    return [*cells, *[(table, key, at) for table, rows in tables.items() for key, parts in rows.items()
                      for at in range(-1, len(parts))]]


def slot_value(book, slot):
    cells, tables = book
    if isinstance(slot, str):
        return cells.get(slot)
    table, key, at = slot
    if at == -1:
        return key in tables[table]
    return tables[table][key][at] if key in tables[table] else None


class WideAsk(Wide):
    """Whether an expression or a question is too wide on the book behind some deeds ([30])."""

    def __init__(self, day, most, books, done):
        super().__init__(day, most)
        self.name = ""
        self.traces = {at: Trace(day, world, books[at], done[at]) for at, world in enumerate(self.worlds)}

    def is_wide(self, work, *parts):
        try:
            work(*parts)
        except TooWideHere:
            return True
        return False

    def value(self, expression, locals_of):
        """The values of an expression in the worlds that have locals; all in it is looked at."""
        place = object()
        values = [None] * len(self.worlds)
        here = {at: self.traces[at] for at in locals_of}
        for at, trace in here.items():
            trace.place = place
            trace.seen[place] = {}
            try:
                values[at] = trace.value(expression, (0,), locals_of[at])
            except Stop:
                pass
        self.look_at_expressions(place, here)
        return values

    def ask(self, expression):
        self.value(expression, {at: {} for at in self.traces})

    def locals_of(self, tables, names, keys):
        return {at: dict(zip(names, keys)) for at, trace in self.traces.items()
                if all(key in trace.tables[table] for table, key in zip(tables, keys))}

    def all_keys(self, table):
        return ordered([key for trace in self.traces.values() for key in trace.tables[table]])

    def look_at_expressions(self, place, here):
        super().look_at_expressions((place, 0), {at: Seen(trace, place) for at, trace in here.items()})

    def answer(self, question):
        if question[0] == "rows":
            _, pairs, condition, expressions = question
            names, tables = [pair[0] for pair in pairs], [pair[1] for pair in pairs]
            rows = [()]
            for table in tables:
                rows = [(*row, key) for row in rows for key in self.all_keys(table)]
            for keys in rows:
                here = self.locals_of(tables, names, keys)
                told = [value is True for value in self.value(condition, here)]
                self.look(told, 0)
                for expression in expressions:
                    self.value(expression, {at: local for at, local in here.items() if told[at]})
            return
        _, name, table, condition, by, how, expression = question
        told = [{} for _ in self.worlds]
        for key in self.all_keys(table):
            here = self.locals_of([table], [name], [key])
            holds = self.value(condition, here)
            heads = self.value(by, {at: local for at, local in here.items() if holds[at] is True})
            met = {at: local for at, local in here.items() if heads[at] is not None}
            values = [0] * len(self.worlds) if how == "count" else self.value(expression, met)
            for at in met:
                told[at].setdefault(repr(heads[at]), []).append(values[at])
            for head in {repr(heads[at]) for at in met}:
                self.look([head in rows for rows in told], 0)
                self.look([result_of(how, rows.get(head)) for rows in told], 0)


class Seen:
    """What a trace has seen at one place, under the place that Wide asks for."""

    def __init__(self, trace, place):
        self.seen = {(place, 0): trace.seen[place]}


def result_of(how, values):
    if values is None:
        return None
    if how == "count":
        return len(values)
    if any(type(value) is not int for value in values):
        return None
    if how == "sum":
        sums = [sum(values[:at]) for at in range(1, len(values) + 1)]
        return sums[-1] if all(abs(number) < 10 ** 18 for number in sums) else None
    return min(values) if how == "low" else max(values)
