"""The desk and its commands ([45], [46])."""

import random
import unittest

from hadnot.days import Day, Deed
from hadnot.desk import Desk
from hadnot.errors import HadnotError, InvalidCommand, InvalidDeed, NotNumber, NotOpen, Opened, Taken, TooWide
from hadnot.errors import UnknownName, Unready
from hadnot.changes import changes
from hadnot.lifts import Lift
from hadnot.opened import closed, opened
from hadnot.plain import run
from hadnot.saytexts import show_expression, show_saying
from hadnot.shares import shares
from hadnot.turning import turning_sets
from hadnot.values import show
from hadnot.wishes import cheapest
from random_days import Maker
from test_days import RaisesTest

SHOP = "deed shop by buy : - | need < 6 @cash ; put cash - @cash 6"
START = ("cell cash 10", "choice tip 2", "choice buy 2", "deed pay by tip : - | put cash - @cash 4", SHOP)


def desk_of(*commands):
    desk = Desk()
    for command in commands:
        desk.say(command)
    return desk


def full_desk():
    """A desk whose day has something of everything."""
    return desk_of(*START, "choice c 3", "table t p q", "cell w 'word", "rule inc 1 v + $v 1", "stand c 2",
                   "deed fill : insert t 1 2 5 @cash ; insert t 'k 2 'a 0", "stand buy 1", "open shop")


class SayTest(RaisesTest):
    def test_example(self):
        desk = desk_of(*START)
        for command, text in (
                ("worth cash", "10 ; 4 ; buy(0 1) ; 6 ; tip(2 3)"), ("ask < @cash 7", "false ; true ; buy(0 1) ; tip(2 1)"),
                ("why < @cash 7", "tip 1 ; buy 1"), ("wish = @cash 6", "1 tip 1"), ("wish = @cash 5", "never"),
                ("wish = @cash 10", "0"), ("share @cash by tip 1 buy 1", "tip -1 ; buy -3"), ("if tip 1 buy 1 : @cash", "6"),
                ("share < @cash 7 by buy 1 tip 1", "tip 1/2 ; buy 1/2"), ("why = 1 1", "never"),
                ("stand buy 1", "0 changes"), ("why < 4 @cash", "tip 1 ; buy 0"), ("move shop 0", "2 changes"),
                ("undo", "undone"), ("take pay", "1 changes"), ("cell cash 5", "1 changes"), ("worth cash", "5"),
                ("cell cash none", "1 changes"), ("ask @cash", "none"), ("ask has cash", "false")):
            self.assertEqual(desk.say(command), text, command)

    def test_empty(self):
        desk = Desk()
        self.assertEqual(len(desk), 0)
        for command, text in (("undo", "nothing"), ("worth x", "none"), ("ask 5", "5"), ("ask 'w", "'w"), ("why has x", "never"),
                              ("wish has x", "never"), ("wish not has x", "0"), ("cell x none", "0 changes"), ("undo", "undone"),
                              ("undo", "nothing")):
            self.assertEqual(desk.say(command=command), text, command)
        self.named(UnknownName, "d", desk.say, "move d 0")

    def test_length(self):
        desk = desk_of(*START)
        self.assertEqual(len(desk), 2)
        desk.say("deed third : -")
        self.assertEqual(len(desk), 3)
        desk.say("take pay")
        self.assertEqual((len(desk), desk.say("undo"), len(desk)), (2, "undone", 3))

    def test_edits(self):
        """Each edit and the same one of a day beside it."""
        desk, day = Desk(), Day()
        edits = [
            ("table t p", lambda day: day.with_table("t", ("p",))), ("table u a b c d", lambda day: day.with_table("u", tuple("abcd"))),
            ("choice c 4", lambda day: day.with_choice("c", 4)), ("choice d 2", lambda day: day.with_choice("d", 2)),
            ("cell x -12", lambda day: day.with_cell("x", -12)), ("cell y 'w1", lambda day: day.with_cell("y", "w1")),
            ("cell big 999999999999999999", lambda day: day.with_cell("big", 10 ** 18 - 1)),
            ("rule f 0 5", lambda day: day.with_rule("f", (), 5)),
            ("rule g 2 v w - $v + $w call f 0", lambda day: day.with_rule("g", ("v", "w"), ("-", ("my", "v"), ("+", ("my", "w"), ("call", "f"))))),
            ("deed a : -", lambda day: day.with_deed(Deed("a", [[]]))),
            ("deed b : put x 1 ; if chosen c 3 ; tell @x ; else ; drop x ; end ; insert t 7 1 @y",
             lambda day: day.with_deed(Deed("b", [[("put", "x", 1), ("if", ("chosen", "c", 3), [("tell", "x")], [("drop", "x")]),
                                                   ("insert", "t", 7, ("y",))]]))),
            ("deed e by d : each k t ; delete t $k ; end | -",
             lambda day: day.with_deed(Deed("e", [[("each", "k", "t", [("delete", "t", ("my", "k"))])], []], "d"))),
            ("move e 0", lambda day: day.moved("e", 0)), ("move b 2", lambda day: day.moved("b", 2)),
            ("stand c 3", lambda day: day.stands("c", 3)), ("open b", lambda day: opened(day, "b")),
            ("stand b.1 1", lambda day: day.stands("b.1", 1)), ("open e", lambda day: opened(day, "e")),
            ("deed z : tell chosen e.0 1", lambda day: day.with_deed(Deed("z", [[("tell", ("chosen", "e.0", 1))]]))),
            ("take a", lambda day: day.without_deed("a")), ("close b", lambda day: closed(day, "b")),
            ("cell y none", lambda day: day.with_cell("y", None)), ("move b 1", lambda day: day.moved("b", 1)),
        ]
        days = [day]
        for command, edit in edits:
            days.append(edit(days[-1]))
            self.assertEqual(desk.say(command), f"{len(changes(Lift(days[-2]), Lift(days[-1])))} changes", command)
            self.compare(desk, days[-1])
        for day in reversed(days[:-1]):
            self.assertEqual(desk.say("undo"), "undone")
            self.compare(desk, day)
        self.assertEqual(desk.say("undo"), "nothing")

    def compare(self, desk, day):
        lift = Lift(day)
        self.assertEqual(len(desk), len(day))
        for cell in ("x", "y", "big", "nix"):
            self.assertEqual(desk.say(f"worth {cell}"), str(lift[cell]))
        for name in day.names:
            self.assertEqual(desk.say(f"ask done {name}"), str(lift.done(name)))
        for name in day.choices.names:
            self.assertEqual(desk.say(f"why chosen {name} 0"), " ; ".join(
                f"{pairs[0][0]} {pairs[0][1]}" for pairs in turning_sets(lift.ask(("chosen", name, 0)), day.standing)))
        for table in day.all_tables:
            self.assertEqual(desk.say(f"ask count k {table} = 1 1"), str(lift.ask(("count", "k", table, ("=", 1, 1)))))

    def test_answers_at_random(self):
        """What is asked of a desk, and of a lift of the same day."""
        seen = {}
        for seed in range(50):
            maker = Maker(seed)
            desk, day = self.made(maker)
            lift, standing = Lift(day), day.standing
            for _ in range(6):
                expression = maker.truth(2) if maker.likely(0.6) else maker.number(2)
                text, worth = show_expression(expression), lift.ask(expression)
                pairs = maker.rows.sample([(name, maker.rows.randrange(day.choices[name])) for name in day.choices.names],
                                          maker.rows.randrange(1, len(day.choices) + 1))
                world, words = {**standing, **dict(pairs)}, " ".join(f"{name} {option}" for name, option in pairs)
                self.assertEqual(desk.say(f"ask {text}"), str(worth))
                self.assertEqual(desk.say(f"if {words} : {text}"), show(run(day, world).ask(expression)))
                self.assertEqual(desk.say(f"if {words} : {text}"), show(worth(world)))
                sets = [" + ".join(f"{name} {option}" for name, option in row) for row in turning_sets(worth, standing)]
                self.assertEqual(desk.say(f"why {text}"), " ; ".join(sets[:5]) or "never")
                best = cheapest(worth, standing, {})
                wanted = "never" if best is None else f"{best[0]}" + "".join(f" {name} {option}" for name, option in best[1])
                self.assertEqual(desk.say(f"wish {text}"), wanted)
                try:
                    ratios = shares(worth, standing, world)
                    wanted = " ; ".join(f"{name} {ratios[name]}" for name in day.choices.names if name in ratios)
                    self.assertEqual(desk.say(f"share {text} by {words}"), wanted)
                except NotNumber:
                    self.assertRaises(NotNumber, desk.say, f"share {text} by {words}")
                    wanted = None
                for what, told in (("sets", len(sets)), ("best", best and len(best[1])), ("share", wanted and wanted.count(";"))):
                    seen[what, told] = seen.get((what, told), 0) + 1
        for what in (("sets", 0), ("sets", 1), ("sets", 4), ("best", None), ("best", 0), ("best", 1), ("share", None),
                     ("share", ""), ("share", 1)):
            self.assertIn(what, seen)

    def made(self, maker):
        """A desk and its day, made by commands."""
        desk, day = Desk(), Day()
        for name in ("c0", "c1", "c2", "c3"):
            maker.options[name] = maker.rows.choice((2, 3, 4))
            desk.say(f"choice {name} {maker.options[name]}")
            day = day.with_choice(name, maker.options[name])
            option = maker.rows.randrange(maker.options[name])
            desk.say(f"stand {name} {option}")
            day = day.stands(name, option)
        for cell in ("x", "y"):
            value = maker.value()
            desk.say(f"cell {cell} {show(value)}")
            day = day.with_cell(cell, value)
        for table, parts in (("t", ("a", "b")), ("u", ("c",))):
            desk.say(f"table {table} {' '.join(parts)}")
            day = day.with_table(table, parts)
        for at in range(4):
            choice = f"c{at}" if maker.likely(0.8) else None
            sayings = [maker.saying(2, 3) for _ in range(1 if choice is None else maker.options[choice])]
            texts = [show_saying(saying).replace("\n", " ; ") or "-" for saying in sayings]
            by = "" if choice is None else f" by {choice}"
            desk.say(f"deed d{at}{by} : {' | '.join(texts)}")
            day = day.with_deed(Deed(f"d{at}", sayings, choice))
            maker.deeds.append(f"d{at}")
        return desk, day

    def test_why(self):
        desk = desk_of(*[f"choice c{at} 2" for at in range(8)], "choice last 4")
        some = "chosen c0 1"
        for at in range(1, 8):
            some = f"or {some} chosen c{at} 1"
        self.assertEqual(desk.say(f"why {some}"), "c0 1 ; c1 1 ; c2 1 ; c3 1 ; c4 1")
        self.assertEqual(desk.say("why and chosen c1 1 not chosen last 0"),
                         "c1 1 + last 1 ; c1 1 + last 2 ; c1 1 + last 3")
        self.assertEqual(desk.say("why chosen last 0"), "last 1 ; last 2 ; last 3")
        desk.say("stand c1 1")
        self.assertEqual(desk.say("why or chosen c1 1 chosen c2 0"), "c1 0 + c2 1")

    def test_wish(self):
        desk = desk_of("choice b 2", "choice a 3")
        self.assertEqual(desk.say("wish and chosen a 2 chosen b 1"), "2 b 1 a 2")
        desk.say("stand a 2")
        self.assertEqual(desk.say("wish and chosen a 2 chosen b 1"), "1 b 1")
        self.assertEqual(desk.say("wish 1"), "never")

    def test_share(self):
        desk = desk_of("choice b 2", "choice a 3", "stand a 1")
        self.assertEqual(desk.say("share when chosen a 2 6 0 by a 2 b 1"), "b 0 ; a 6")
        # Choices that stand so do not differ.
        self.assertEqual(desk.say("share when chosen a 2 6 0 by a 1 b 0"), "")
        self.assertEqual(desk.say("share when chosen a 2 6 0 by b 1 a 1"), "b 0")
        # The word by may be a name, too.
        desk.say("deed by : tell 1")
        self.assertEqual(desk.say("share done by by b 1"), "b 0")

    def test_opened(self):
        desk = desk_of(*START, "stand buy 1")
        self.assertEqual(desk.say("open shop"), "1 changes")
        self.assertEqual(desk.say("why = @cash 4"), "tip 1 ; buy 0 ; shop.1 1")
        self.assertEqual(desk.say("if shop.1 1 tip 1 : @cash"), "6")
        self.assertEqual(desk.say("share @cash by shop.1 1"), "shop.1 6")
        self.assertEqual(desk.say("wish = @cash 0"), "2 tip 1 shop.0 1")
        self.assertEqual(desk.say("stand shop.1 1"), "0 changes")
        self.assertEqual(desk.say("if buy 1 : @cash"), "10")
        self.assertEqual(desk.say("ask chosen shop.0 1"), "false ; true ; shop.0(0 1)")
        self.assertEqual(desk.say("close shop"), "1 changes")
        self.assertEqual(desk.say("if tip 0 : @cash"), "4")
        self.named(NotOpen, "shop", desk.say, "close shop")

    def test_eighty_choices(self):
        """By open a day may have up to eighty choices."""
        desk = desk_of(*[f"choice c{at} 2" for at in range(20)], *[f"cell x{at} {at}" for at in range(20)])
        rows = " ; ".join(f"if chosen c{at} 0 ; put x{at} 100 ; else ; put x{at} 200 ; end" for at in range(20))
        self.assertEqual(desk.say(f"deed go : {rows}"), "0 changes")
        self.assertEqual(desk.say("open go"), "20 changes")
        self.assertEqual(desk.say("worth x19"), "100 ; 19 ; go.58(0 1) ; go.57(2 1) ; 200 ; go.59(4 1) ; go.57(5 1) ; c19(3 6)")
        self.assertEqual(desk.say("worth x3"), str(Lift(self.eighty())["x3"]))
        self.assertEqual(desk.say("why = @x19 100"), "c19 1 ; go.57 1 ; go.58 1")
        self.assertEqual(desk.say("wish and = @x3 3 = @x19 200"), "2 c19 1 go.9 1")
        self.assertEqual(desk.say("share @x19 by c19 1"), "c19 100")
        self.assertEqual(desk.say("undo"), "undone")

    def eighty(self):
        day = Day()
        for at in range(20):
            day = day.with_choice(f"c{at}", 2).with_cell(f"x{at}", at)
        rows = [("if", ("chosen", f"c{at}", 0), [("put", f"x{at}", 100)], [("put", f"x{at}", 200)]) for at in range(20)]
        return opened(day.with_deed(Deed("go", [rows])), "go")


# Commands that are none, whatever a desk has.
WRONG = """
undo now|undo |x| undo|UNDO|Undo|cash|open|close|take|worth|ask|why|wish|share|if|table|choice|cell|rule|deed|move|stand
table t|table n t t|table n p q r s u|table n p q r s p|table N p|table n P|table 1n p|table longname p|table  p|table n  p|table n p |table n.1 p
choice n|choice n 1|choice n 5|choice n 0|choice n 02|choice n -2|choice n two|choice N 2|choice n 2 3|choice pay.0 2|choice n.1 2|choice  2|choice n  2
cell n|cell n w|cell n 'W|cell n '|cell n 01|cell n -0|cell n +1|cell n 1000000000000000000|cell n -1000000000000000000|cell n 1 2|cell n none none
cell N 1|cell n.1 1|cell n None|cell n 'none x|cell n true|cell n 1.5|cell n |cell  1|cell n by tip 1 2|cell n @cash|cell n ' w|cell n 0x1|cell n 1_0
rule n|rule n 0|rule n 1 5|rule n 1 v|rule n 2 v 5|rule n 0 v 5|rule n 10 a b c d e f g h i j 5|rule n 01 v 5|rule n -1 5|rule N 0 5|rule n 1 V 5
rule n 0 5 5|rule n 0 + 5|rule n 0 $V|rule n 0 nix|rule n 0  5|rule n 1 v.1 5|rule n x 5|rule n 0 5 |rule  0 5
deed n|deed n :|deed n : |deed n: -|deed n :-|deed n -|deed n : - -|deed n : - |deed n :  -|deed n  : -|deed N : -|deed n.1 : -|deed n : - \\| |deed n : \\|
deed n : - \\|deed n : \\| -|deed n : - \\|\\| -|deed n : - \\|  \\| -|deed n by : -|deed n by tip|deed n by tip - : -|deed n by tip : |deed n by pay.0 : - \\| -
deed n by TIP : - \\| -|deed n with tip 1 : -|deed n by tip with buy 1 : - \\| -|deed n : tell|deed n : tell 1 ;|deed n : ; tell 1|deed n : tell 1 ; ; tell 2
deed n : tell 1 ;  ; tell 2|deed n : tell 1; tell 2|deed n : tell 1 2|deed n : - ; tell 1|deed n : tell 1 ; -|deed n : if has x|deed n : if has x ; tell 1
deed n : end|deed n : else|deed n : if has x ; else ; else ; end|deed n : if has x ; end ; end|deed n : each r t ; else ; end|deed n : say 1|deed n : put X 1
deed n : tell 1 \\| tell 2 :|deed n : tell 1 : tell 2|deed n : put x 1000000000000000000|deed n : insert t 1 10 1 1 1 1 1 1 1 1 1 1|deed n : tell chosen tip 4
take|take pay shop|take Pay|take pay.0|take |take pay |take 1|take  pay
move pay|move pay 0 1|move pay -1|move pay 99|move pay 00|move pay 01|move pay -0|move pay x|move pay |move Pay 0|move pay.0 0|move  0|move pay 1000000000000000000
move nix 99|move nix -1
stand tip|stand tip 2|stand tip 3|stand tip 4|stand tip -1|stand tip 00|stand tip 1 1|stand tip x|stand tip |stand c 3|stand TIP 1|stand tip 1 buy 1|stand nix 4|stand  1
stand shop.0 2|stand shop.00 1|stand shop.100 1|stand shop. 1|stand .1 1|stand a.b.1 1
open pay shop|open Pay|open pay.0|open |open  pay|open pay |close pay shop|close Pay|close pay.0|close |close shop.0
worth cash cash|worth Cash|worth @cash|worth 1|worth |worth cash.1|worth  cash|worth cash
ask|ask |ask 1 2|ask nix|ask + 1|ask + 1 2 3|ask 01|ask -0|ask @|ask @X|ask 'W|ask $|ask chosen tip 4|ask chosen tip|ask call inc 10 1|ask  1|ask 1 |ask <  1 2|ask 1000000000000000000
ask count v t|ask part t 1|ask none|ask true|ask "w"|ask (+ 1 2)|ask chosen tip.x 1|ask my v|ask word w
if : 1|if tip 1 :|if tip 1 : |if tip : 1|if tip 1|if tip 1 1|if tip 2 : 1|if tip 4 : 1|if tip -1 : 1|if tip 1 tip 1 : 1|if tip 1 buy 1 tip 0 : 1|if nix 1 nix 1 : 1|if tip 1 : 1 2|if tip 1: 1
if tip 1 :  1|if tip 1  : 1|if  tip 1 : 1|if TIP 1 : 1|if tip 1 buy : 1|if tip 1 buy 2 : 1|if nix 1 tip 2 : 1|if nix 1 : nix|if nix 4 : 1|if tip 1 : + 1|if tip 1 : : 1|if shop.0 2 : 1|if tip 01 : 1
why|why |why 1 2|why nix|why + 1|why < 1 2 |wish|wish |wish 1 2|wish nix|wish not|wish true 1
share 1|share 1 by|share 1 by |share by tip 1|share 1 by tip|share 1 by tip 2|share 1 by tip 4|share 1 by tip 1 tip 0|share 1 2 by tip 1|share + 1 by tip 1|share 1 to tip 1|share 1 by TIP 1
share 1 by tip 1 |share 1 by  tip 1|share 1 by tip 1 buy|share 1 by nix 1 tip 2|share 1 by nix 4|share 1 by nix 1 nix 0|share 1 by tip 1 ; buy 1|share 1 by : tip 1|share nix by tip 1
"""


def wrong_commands():
    """The commands that are none, without the ends of the lines."""
    bar = "\0"
    commands = [command.replace(bar, "|") for line in WRONG.strip("\n").split("\n")
                for command in line.replace("\\|", bar).split("|")]
    commands.remove("worth cash")
    return ["", " ", "\n", "undo\n", "\nundo", "ask 1\n", "deed n : tell 1\ntell 2", "deed n : -\n", "cell n\n1", "cell n 1\n", "ask + 1\n2",
            "deed n : tell 1\n;\ntell 2", "table n p\n", "if tip 1\n: 1", "worth cash\n", "deed n : tell 1 ;\ntell 2", *commands]


class WrongTest(RaisesTest):
    def state(self, desk):
        told = [desk.say(f"worth {cell}") for cell in ("cash", "w", "n", "x")]
        told += [desk.say(f"ask {text}") for text in ("done pay", "done shop", "done fill", "count k t = 1 1", "call inc 1 7", "chosen c 2")]
        told += [desk.say("why < @cash 7"), desk.say("wish = @cash 4"), desk.say("if tip 0 : chosen shop.0 0"), len(desk)]
        return told

    def test_none_of_these(self):
        desk = full_desk()
        before = self.state(desk)
        for command in wrong_commands():
            with self.assertRaises(InvalidCommand, msg=command) as caught:
                desk.say(command)
            self.assertIs(type(caught.exception), InvalidCommand)
        self.assertEqual(self.state(desk), before)
        self.assertEqual([desk.say("undo") for _ in range(14)], ["undone"] * 13 + ["nothing"])

    def test_words_exchanged(self):
        """Each command with a word left out, put in twice, exchanged, or empty is another one or none."""
        desk = full_desk()
        before = self.state(desk)
        rows = random.Random(1)
        right = [*START, "table n p q", "choice n 3", "cell n 'w", "rule n 1 v + $v 1", "deed n by tip : - | tell 1 ; tell 2",
                 "take pay", "move pay 1", "stand tip 1", "open fill", "close shop", "undo", "worth cash", "ask < @cash 7",
                 "if tip 1 buy 1 : @cash", "why < @cash 7", "wish = @cash 4", "share @cash by tip 1 buy 1"]
        wrong = 0
        for command in right:
            words = command.split(" ")
            for at in range(len(words)):
                for made in ([*words[:at], *words[at + 1:]], [*words[:at], words[at], *words[at:]], [*words[:at], "", *words[at:]],
                             [*words[:at], "", *words[at + 1:]], [*words[:at], rows.choice(words), *words[at + 1:]],
                             [*words[:at], words[at].upper(), *words[at + 1:]], [*words, words[at]]):
                    try:
                        desk.say(" ".join(made))
                    except (HadnotError, UnknownName) as error:
                        wrong += isinstance(error, InvalidCommand)
                        self.assertEqual(self.state(desk), before, made)
                        continue
                    self.assertNotIn("", made)
                    desk = full_desk()
        self.assertGreater(wrong, 500)

    def test_errors(self):
        """The errors behind InvalidCommand, each of which changes nothing."""
        desk = full_desk()
        before = self.state(desk)
        for error, told, command in (
                (Taken, {"name": "t"}, "table t p"), (Taken, {"name": "tip"}, "choice tip 2"), (Taken, {"name": "inc"}, "rule inc 0 5"),
                (Taken, {"name": "v"}, "rule n 3 w v v 5"), (Taken, {"name": "pay"}, "deed pay : -"),
                (InvalidDeed, {"name": "n"}, "deed n : - | -"), (InvalidDeed, {"name": "n"}, "deed n by tip : -"),
                (InvalidDeed, {"name": "n"}, "deed n by tip : - | - | -"), (Unready, {"where": "n", "name": "nix"}, "deed n by nix : -"),
                (Unready, {"where": "n", "name": "c"}, "deed n : tell chosen c 3"), (Unready, {"where": "n", "name": "nix"}, "rule n 0 done nix"),
                (Unready, {"where": "n", "name": "t"}, "deed n : insert t 1 1 5"), (Unready, {"where": "n", "name": "later"}, "deed n : tell done later"),
                (Unready, {"where": "n", "name": "inc"}, "rule n 0 call inc 0"), (Unready, {"where": "n", "name": "pay.0"}, "deed n : tell chosen pay.0 0"),
                (UnknownName, {"name": "nix"}, "take nix"), (UnknownName, {"name": "nix"}, "move nix 1"), (UnknownName, {"name": "nix"}, "stand nix 3"),
                (UnknownName, {"name": "pay.0"}, "stand pay.0 1"), (UnknownName, {"name": "cash"}, "open cash"), (UnknownName, {"name": "tip"}, "close tip"),
                (Opened, {"name": "shop"}, "open shop"), (Opened, {"name": "shop"}, "take shop"), (NotOpen, {"name": "pay"}, "close pay"),
                (UnknownName, {"name": "nix"}, "if nix 1 : 1"), (UnknownName, {"name": "nix"}, "if tip 1 nix 3 nox 1 : done nix"),
                (UnknownName, {"name": "pay.0"}, "if pay.0 1 : 1"), (Unready, {"where": "", "name": "nix"}, "if tip 1 : done nix"),
                (Unready, {"where": "", "name": "nix"}, "ask stands nix 1"), (Unready, {"where": "", "name": "c"}, "why chosen c 3"),
                (Unready, {"where": "", "name": "inc"}, "wish call inc 2 1 1"), (Unready, {"where": "", "name": "nix"}, "share done nix by tip 1"),
                (UnknownName, {"name": "nix"}, "share done nox by nix 1 tip 1"), (NotNumber, {}, "share @w by tip 1"),
                (NotNumber, {}, "share when chosen tip 1 1 has cash by tip 1")):
            self.raises(error, told, desk.say, command)
        self.assertEqual(self.state(desk), before)
        self.assertEqual([desk.say("undo") for _ in range(14)], ["undone"] * 13 + ["nothing"])

    def test_places(self):
        desk = desk_of("deed a : -", "deed b : -", "deed c : -")
        for place in (0, 1, 2):
            self.assertEqual(desk.say(f"move a {place}"), "0 changes")
        for place in (3, 4, -1, 10 ** 17):
            self.raises(InvalidCommand, {}, desk.say, f"move a {place}")
            self.raises(InvalidCommand, {}, desk.say, f"move nix {place}")
        self.named(UnknownName, "nix", desk.say, "move nix 2")
        self.raises(InvalidCommand, {}, Desk().say, "move nix 1")
        self.named(UnknownName, "nix", Desk().say, "move nix 0")

    def test_too_wide(self):
        desk = desk_of(*[f"choice c{at} 2" for at in range(40)])
        narrow = "0"
        for at in range(13):
            narrow = f"+ {narrow} when chosen c{at} 1 1 0"
        desk.say(f"deed a : put n {narrow}")
        more = " ; ".join(f"put n + @n when chosen c{at} 1 1 0" for at in range(13, 40))
        # With so many choices the number has 300 nodes, then 325.
        self.raises(TooWide, {"deed": "b", "row": 10}, desk.say, f"deed b : {more}")
        self.assertEqual(len(desk), 1)
        most = " ; ".join(f"put n + @n when chosen c{at} 1 1 0" for at in range(13, 23))
        self.assertEqual(desk.say(f"deed b : {most}"), "0 changes")
        wide = "+ @n when chosen c30 1 1 0"
        for command in (f"ask {wide}", f"why {wide}", f"wish {wide}", f"share {wide} by c0 1"):
            self.raises(TooWide, {"deed": "", "row": 0}, desk.say, command)
        # In one world nothing is wide.
        self.assertEqual(desk.say(f"if c0 1 c30 1 : {wide}"), "2")
        self.assertEqual(desk.say("why < @n 2").count(";"), 4)

    def test_desks_are_apart(self):
        desk, other = desk_of(*START), Desk()
        self.assertEqual((len(desk), len(other), other.say("worth cash")), (2, 0, "none"))


if __name__ == "__main__":
    unittest.main()
