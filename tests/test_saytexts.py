"""[15], [16], [18], [19]: the texts of expressions and sayings."""

import re
import unittest

from hadnot.errors import InvalidText
from hadnot.saytexts import read_expression, read_saying, show_expression, show_saying

# Every form of an expression with the text that the document gives it.
EXPRESSIONS = (
    (0, "0"),
    (5, "5"),
    (-12, "-12"),
    (10 ** 18 - 1, "9" * 18),
    (-(10 ** 18 - 1), "-" + "9" * 18),
    (("word", "w"), "'w"),
    (("word", "abcde9"), "'abcde9"),
    ("x", "@x"),
    ("not", "@not"),
    (("my", "v"), "$v"),
    (("part", "t", 1, "p"), "part t 1 p"),
    (("part", "t", ("+", 1, "x"), "p"), "part t + 1 @x p"),
    (("has", "x"), "has x"),
    (("stands", "t", ("word", "k")), "stands t 'k"),
    (("done", "d"), "done d"),
    (("chosen", "c", 0), "chosen c 0"),
    (("chosen", "pay.0", 1), "chosen pay.0 1"),
    (("chosen", "pay.59", 3), "chosen pay.59 3"),
    (("+", 1, 2), "+ 1 2"),
    (("-", -1, "x"), "- -1 @x"),
    (("*", ("-", 1, 2), 3), "* - 1 2 3"),
    (("least", 1, 2), "least 1 2"),
    (("most", 1, 2), "most 1 2"),
    (("<", 6, "cash"), "< 6 @cash"),
    (("=", ("word", "a"), ("my", "b")), "= 'a $b"),
    (("and", ("has", "x"), ("has", "y")), "and has x has y"),
    (("or", ("not", ("has", "x")), ("done", "d")), "or not has x done d"),
    (("not", ("not", ("has", "x"))), "not not has x"),
    (("when", ("has", "x"), "x", 0), "when has x @x 0"),
    (("call", "f"), "call f 0"),
    (("call", "f", 1), "call f 1 1"),
    (("call", "f", 1, ("call", "g", "x", 2), ("my", "v")), "call f 3 1 call g 2 @x 2 $v"),
    (("call", "f", 1, 2, 3, 4, 5, 6, 7, 8, 9), "call f 9 1 2 3 4 5 6 7 8 9"),
    (("count", "v", "t", ("has", "x")), "count v t has x"),
    (("sum", "v", "t", ("has", "x"), ("my", "v")), "sum v t has x $v"),
    (("low", "v", "t", ("<", 1, ("my", "v")), ("part", "t", ("my", "v"), "p")), "low v t < 1 $v part t $v p"),
    (("high", "v", "t", ("has", "x"), ("count", "w", "u", ("has", "y"))), "high v t has x count w u has y"),
)

ROWS = (
    (("let", "v", ("+", 1, 2)), "let v + 1 2"),
    (("put", "x", ("word", "w")), "put x 'w"),
    (("drop", "x"), "drop x"),
    (("insert", "t", 1, ()), "insert t 1 0"),
    (("insert", "t", "x", (1, ("+", 2, 3), ("word", "a"))), "insert t @x 3 1 + 2 3 'a"),
    (("change", "t", ("my", "k"), "p", 5), "change t $k p 5"),
    (("delete", "t", ("word", "a")), "delete t 'a"),
    (("if", ("has", "x"), (), ()), "if has x\nend"),
    (("if", ("has", "x"), (("drop", "x"),), ()), "if has x\ndrop x\nend"),
    (("if", ("has", "x"), (("drop", "x"),), (("drop", "y"), ("drop", "z"))),
     "if has x\ndrop x\nelse\ndrop y\ndrop z\nend"),
    (("if", ("has", "x"), (), (("drop", "y"),)), "if has x\nelse\ndrop y\nend"),
    (("each", "v", "t", ()), "each v t\nend"),
    (("each", "v", "t", (("delete", "t", ("my", "v")), ("tell", 1))), "each v t\ndelete t $v\ntell 1\nend"),
    (("need", ("<", 6, "cash")), "need < 6 @cash"),
    (("tell", "x"), "tell @x"),
    (("if", ("has", "x"), (("each", "v", "t", (("if", ("has", "y"), (), (("tell", 1),)), ("tell", 2))),),
      (("if", ("has", "z"), (("tell", 3),), ()),)),
     "if has x\neach v t\nif has y\nelse\ntell 1\nend\ntell 2\nend\nelse\nif has z\ntell 3\nend\nend"),
)


# What stands behind each first word: N a name, C the name of a choice, O an option, E an expression,
# M a number of expressions and these.
WORDS = {"part": "NEN", "has": "N", "stands": "NE", "done": "N", "chosen": "CO", "+": "EE", "-": "EE", "*": "EE",
         "least": "EE", "most": "EE", "<": "EE", "=": "EE", "and": "EE", "or": "EE", "not": "E", "when": "EEE",
         "call": "NM", "count": "NNE", "sum": "NNEE", "low": "NNEE", "high": "NNEE"}
LINES = {"let": "NE", "put": "NE", "drop": "N", "insert": "NEM", "change": "NENE", "delete": "NE", "if": "E",
         "each": "NN", "need": "E", "tell": "E"}
PATTERNS = {"N": "[a-z][a-z0-9]{0,5}", "C": "[a-z][a-z0-9]{0,5}([.](0|[1-9][0-9]?))?", "O": "[0-3]", "M": "[0-9]",
            "E": "0|-?[1-9][0-9]{0,17}|['@$][a-z][a-z0-9]{0,5}"}


def line_stands(line):
    """Whether a line is one of a row, told word by word."""
    words = line.split(" ")
    if words[0] not in LINES:
        return False
    waiting = LINES[words[0]]
    for word in words[1:]:
        if waiting == "":
            return False
        if waiting[0] == "E" and word in WORDS:
            waiting = WORDS[word] + waiting[1:]
        elif not re.fullmatch(PATTERNS[waiting[0]], word):
            return False
        else:
            waiting = ("E" * int(word) if waiting[0] == "M" else "") + waiting[1:]
    return waiting == ""


def first_wrong(lines):
    """The first line that cannot stand there, or None."""
    around = []
    if lines == [""]:
        return None
    for at, line in enumerate(lines):
        if line == "end" and around:
            around.pop()
        elif line == "else" and around[-1:] == ["if"]:
            around[-1] = "else"
        elif not line_stands(line):
            return at
        elif line.split(" ")[0] in ("if", "each"):
            around.append(line.split(" ")[0])
    return len(lines) if around else None


def listed(value):
    """A value with lists in the place of tuples."""
    return [listed(part) for part in value] if isinstance(value, tuple) else value


class ExpressionTest(unittest.TestCase):
    def test_texts(self):
        for expression, text in EXPRESSIONS:
            for passed in (expression, listed(expression)):
                self.assertEqual(show_expression(passed), text)
            self.assertEqual(repr(read_expression(text)), repr(expression))

    def test_arguments_by_name(self):
        self.assertEqual(show_expression(expression=("has", "x")), "has x")
        self.assertEqual(read_expression(text="has x"), ("has", "x"))

    def test_lists_stay_as_they_are(self):
        expression = ["+", ["call", "f", 1], ["my", "v"]]
        show_expression(expression)
        self.assertEqual(expression, ["+", ["call", "f", 1], ["my", "v"]])

    def test_nested_forty_deep(self):
        for word, expression in (("not", ("not",)), ("+ 1", ("+", 1))):
            deep, text = "x", "@x"
            for _ in range(40):
                deep, text = (*expression, deep), f"{word} {text}"
            self.assertEqual(show_expression(deep), text)
            self.assertEqual(read_expression(text), deep)
            self.refused(text.replace("@x", "@X"), 0)
            self.refused(text[:-3], 0)

    def refused(self, text, row):
        with self.assertRaises(InvalidText, msg=ascii(text)) as caught:
            read_expression(text)
        self.assertEqual(caught.exception.row, row, ascii(text))

    def test_wrong_texts(self):
        for text in ("", " ", "\n", "01", "00", "-0", "-01", "--1", "+1", "1.0", "1_0", "0x1", "1" * 19, "-" + "1" * 19,
                     "'", "@", "$", "'A", "@A", "$1", "@abcdefg", "'a.1", "@a.1", "$a.1", "x", "word w", "my v",
                     "''a", "@ x", "part t 1", "part t 1 p p", "part t 1 @p", "part 1 t p", "part T 1 p", "has",
                     "has @x", "has a.1", "has 1", "stands t", "done 1", "done d.1", "done d d", "chosen c",
                     "chosen c 4", "chosen c 10", "chosen c -1", "chosen c 00", "chosen c a", "chosen a.01 0",
                     "chosen a. 0", "chosen a.100 0", "chosen A 0", "chosen c @o", "+ 1", "+ 1 2 3", "+", "+1 2", "plus 1 2",
                     "<= 1 2", "== 1 2", "> 1 2", "not", "Not 1", "NOT 1", "when 1 2", "call", "call f", "call f 1",
                     "call f 2 1", "call f 1 1 2", "call f 10 1 1 1 1 1 1 1 1 1 1", "call f -0", "call f 01 1",
                     "call f -1", "call f x", "call @f 0", "count v t", "count v 1 1", "count $v t 1", "sum v t 1",
                     "low v t 1", "high v t 1", "sum v t 1 2 3", "let v 1", "end", "else", "if 1", "true", "none", "True",
                     "has  x", " has x", "has x ", "has\tx", "1 ", " 1", "~", "\\", "(has x)", "has x;", "\u0661", "@\u00e9"):
            self.refused(text, 0)

    def test_further_lines(self):
        for text in ("1\n", "1\n2", "has x\n\n", "1\nend", "1\n \nx", "+ 1 2\nhas"):
            self.refused(text, 1)
        for text in ("x\n1", "\n1", "has\nx", "+ 1\n2", "01\n\n"):
            self.refused(text, 0)

    def test_each_word_changed(self):
        """Texts with one word left out or doubled are no texts, or stand for something else."""
        for expression, text in EXPRESSIONS:
            words = text.split(" ")
            for at in range(len(words)):
                for changed in (words[:at] + words[at + 1:], words[:at + 1] + words[at:],
                                words[:at] + [""] + words[at:], words[:at] + ["?"] + words[at + 1:]):
                    self.other(" ".join(changed), text, expression)

    def other(self, changed, text, expression):
        try:
            told = read_expression(changed)
        except InvalidText as error:
            self.assertEqual(error.row, 0)
        else:
            self.assertEqual(show_expression(told), changed)
            self.assertEqual(told == expression, changed == text)


class SayingTest(unittest.TestCase):
    def test_rows(self):
        for row, text in ROWS:
            for passed in ((row,), listed((row,)), [row], (listed(row),)):
                self.assertEqual(show_saying(passed), text)
            self.assertEqual(repr(read_saying(text)), repr((row,)))

    def test_sayings(self):
        self.assertEqual(show_saying(()), "")
        self.assertEqual(show_saying([]), "")
        self.assertEqual(read_saying(""), ())
        saying = tuple(row for row, _ in ROWS)
        text = "\n".join(text for _, text in ROWS)
        self.assertEqual(show_saying(saying=saying), text)
        self.assertEqual(read_saying(text=text), saying)

    def test_expressions_in_rows(self):
        for expression, text in EXPRESSIONS:
            rows = (("let", "v", expression), ("insert", "t", expression, (expression, 1)),
                    ("change", "t", 0, "p", expression), ("if", expression, (("need", expression),), ()))
            told = f"let v {text}\ninsert t {text} 2 {text} 1\nchange t 0 p {text}\nif {text}\nneed {text}\nend"
            self.assertEqual(show_saying(rows), told)
            self.assertEqual(read_saying(told), rows)

    def test_else_without_rows(self):
        for text, rows in (("if 1\nelse\nend", ("if", 1, (), ())),
                           ("if 1\ntell 2\nelse\nend", ("if", 1, (("tell", 2),), ()))):
            self.assertEqual(read_saying(text), (rows,))
            self.assertEqual(show_saying((rows,)), text.replace("else\n", ""))

    def test_forty_deep(self):
        for head, row in (("if 1", lambda rows: ("if", 1, rows, ())), ("each v t", lambda rows: ("each", "v", "t", rows)),
                          ("if 1\nelse", lambda rows: ("if", 1, (), rows))):
            text, rows = "tell 1", (("tell", 1),)
            for _ in range(40):
                text, rows = f"{head}\n{text}\nend", (row(rows),)
            self.assertEqual(read_saying(text), rows)
            self.assertEqual(show_saying(rows), text)
            self.refused(text[:-4], len(text.split("\n")) - 1)
            self.refused(text + "\nend", len(text.split("\n")))

    def refused(self, text, row):
        with self.assertRaises(InvalidText, msg=ascii(text)) as caught:
            read_saying(text)
        self.assertEqual(caught.exception.row, row, ascii(text))

    def test_first_wrong_line(self):
        rows = (("\n", 0), (" ", 0), ("tell 1\n", 1), ("tell 1\n\ntell 2", 1), ("\ntell 1", 0), ("tell 1\n ", 1),
                ("end", 0), ("else", 0), ("tell 1\nend", 1), ("tell 1\nelse\ntell 2", 1), ("if 1\nend\nend", 2),
                ("if 1\nelse\nelse\nend", 2), ("each v t\nelse\nend", 1), ("if 1\neach v t\nelse\nend\nend", 2),
                ("if 1", 1), ("if 1\nelse", 2), ("if 1\ntell 1", 2), ("each v t", 1), ("if 1\neach v t\nend", 3),
                ("if 1\nif 2\nend\nelse\ntell 3", 5), ("if\nend", 0), ("if 1 2\nend", 0), ("each v\nend", 0),
                ("each v t 1\nend", 0), ("each $v t\nend", 0), ("each v 1\nend", 0), ("if 1\nend ", 1),
                ("if 1\n end", 1), ("if 1\nelse 1\nend", 1), ("if 1\nEnd", 1), ("if 1\nend 1", 1),
                ("tell 1\ntell\ntell x", 1), ("tell 01\nif", 0), ("if 1\ntell x\nelse", 1), ("tell 1\nend\nfoo", 1))
        for text, row in rows:
            self.refused(text, row)

    def test_wrong_rows(self):
        rows = ("let v", "let 1 v", "let $v 1", "let a.1 1", "let v 1 1", "let V 1", "put x", "put @x 1", "put 1", "put x 1 2",
                "drop", "drop @x", "drop x x", "drop X", "insert t 1", "insert t 1 1", "insert t 1 1 2 3",
                "insert t 1 10 1 1 1 1 1 1 1 1 1 1", "insert t 1 -1", "insert t 1 01 1", "insert @t 1 0",
                "change t 1 p", "change t p 1", "change t 1 @p 2", "change t 1 p 2 3", "delete t", "delete t 1 2", "delete @t 1",
                "need", "need 1 2", "tell", "tell 1 1", "Tell 1", "tell  1", " tell 1", "tell 1 ", "tell\t1", "say 1", "let",
                "1", "@x", "has x", "+ 1 2", "chosen c 0", "or", "deed d", "close", "-", "insert t 1 a 1", ";", "tell x")
        for text in rows:
            self.refused(text, 0)
            self.refused(f"{text}\nend", 0)
            self.refused(f"tell 1\n{text}\nend", 1)
            self.refused(f"if has x\ntell 1\nelse\n{text}\nend", 3)

    def test_each_line_changed(self):
        """Texts with one line left out, doubled or exchanged."""
        for _, text in ROWS:
            lines = text.split("\n")
            for at in range(len(lines)):
                for changed in (lines[:at] + lines[at + 1:], lines[:at + 1] + lines[at:], lines[:at] + [""] + lines[at:],
                                lines[:at] + ["end"] + lines[at:], lines[:at] + ["else"] + lines[at:],
                                lines[:at] + lines[at + 1:at + 2] + lines[at:at + 1] + lines[at + 2:]):
                    self.check_lines(changed)

    def check_lines(self, lines):
        row = first_wrong(lines)
        text = "\n".join(lines)
        if row is not None:
            self.refused(text, row)
        else:
            # An else with no rows behind it is read, but not written.
            kept = [line for at, line in enumerate(lines) if (line, lines[at + 1:at + 2]) != ("else", ["end"])]
            self.assertEqual(show_saying(read_saying(text)), "\n".join(kept))

    def changed_texts(self, text, signs):
        """Texts with one sign changed, left out, put in, doubled or exchanged."""
        for at in range(len(text) + 1):
            yield text[:at] + text[at + 1:]
            yield text[:at] + text[at:at + 1] + text[at:]
            yield text[:at] + text[at + 1:at + 2] + text[at:at + 1] + text[at + 2:]
            for sign in signs:
                yield text[:at] + sign + text[at:]
                yield text[:at] + sign + text[at + 1:]

    def test_each_sign_changed(self):
        for _, text in ROWS:
            for changed in self.changed_texts(text, " a09-'@$.+A\n_"):
                self.check_lines(changed.split("\n"))
        for _, text in EXPRESSIONS:
            for changed in self.changed_texts(f"tell {text}", " t05-'$.A"):
                self.check_lines(changed.split("\n"))

    def test_each_word_changed(self):
        saying = "\n".join(text for _, text in ROWS).split("\n")
        words = ("end", "else", "if", "1", "-1", "10", "@x", "x", "t", "'a", "a.1", "+", "call", "", "tell")
        for at, line in enumerate(saying):
            parts = line.split(" ")
            for place in range(len(parts) + 1):
                rows = [parts[:place] + parts[place + 1:], parts[:place + 1] + parts[place:],
                        parts[:place] + parts[place + 1:place + 2] + parts[place:place + 1] + parts[place + 2:]]
                for word in words:
                    rows += [parts[:place] + [word] + parts[place:], parts[:place] + [word] + parts[place + 1:]]
                for row in rows:
                    self.check_lines(saying[:at] + [" ".join(row)] + saying[at + 1:])
