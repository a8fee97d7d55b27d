"""[2], [6] and the texts of values of [30]."""

import itertools
import unittest

from hadnot.values import in_order, is_name, is_same, is_value, show
from helpers import OTHERS, VALUES, ordered, same

NAMES = ("a", "z", "a1", "cash", "z09", "abcdef", "a99999", "none", "true", "number")
# Names with one thing changed.
NO_NAMES = ("", "abcdefg", "a999999", "A", "caSh", "cashZ", "1a", "9", "_a", "a_b", "a-b", "a b", " a", "a ",
            "a\n", "\na", "a\t", "a.1", "a.", ".a", "\u00e9", "caf\u00e9", "\u00df", "\u0430b", "\uff41", "a\u0661",
            "a\u00b2", "a\uff11", "a\x00", "'a", "@a", "$a")
BIG = (10 ** 300, -(10 ** 300), 10 ** 300 + 1, 10 ** 900)
NO_TEXTS = (None, True, False, 0, 1, -1, (), ("a",), (("a",), 1), 10 ** 300)


class NameTest(unittest.TestCase):
    def test_names(self):
        for name in NAMES:
            self.assertIs(is_name(name), True, name)

    def test_texts_that_are_no_names(self):
        for name in NO_NAMES:
            self.assertIs(is_name(name), False, ascii(name))

    def test_every_sign(self):
        for code in range(0x250):
            sign = chr(code)
            letter = "a" <= sign <= "z"
            self.assertIs(is_name(sign), letter)
            self.assertIs(is_name("x" + sign), letter or "0" <= sign <= "9")

    def test_other_kinds(self):
        for value in NO_TEXTS:
            self.assertIs(is_name(value), False, value)
        self.assertIs(is_name(value="a"), True)


class ValueTest(unittest.TestCase):
    def test_values(self):
        for value in (None, True, False, 0, 1, -1, *BIG, *NAMES):
            self.assertIs(is_value(value), True)

    def test_no_values(self):
        for value in ((), (1,), ("a", 1), ((None,),), *NO_NAMES):
            self.assertIs(is_value(value), False, ascii(value))
        self.assertIs(is_value(value=None), True)


class SameTest(unittest.TestCase):
    def test_all_pairs(self):
        for one, other in itertools.product((*VALUES, *BIG), repeat=2):
            self.assertIs(is_same(one, other), same(one, other), (one, other))

    def test_truths_are_no_numbers(self):
        for one, other in ((1, True), (0, False), (True, 1), (False, 0), (None, False), (None, 0)):
            self.assertIs(is_same(one=one, other=other), False)

    def test_equal_texts_and_numbers(self):
        self.assertIs(is_same("".join(["a", "b"]), "ab"), True)
        self.assertIs(is_same(10 ** 300, 10 ** 299 * 10), True)


class OrderTest(unittest.TestCase):
    def check(self, values, wanted):
        for passed in (list(values), tuple(values)):
            told = in_order(passed)
            self.assertIsInstance(told, list)
            self.assertEqual(repr(told), repr(wanted))
            self.assertEqual(repr(list(passed)), repr(list(values)))

    def test_kinds(self):
        self.check((True, "a", False, 1, None, 0, "b"), [None, 0, 1, "a", "b", False, True])
        self.check((True, False, 1, 0), [0, 1, False, True])
        self.check((), [])

    def test_equal_ones_once(self):
        self.check((1, True, 1, True, 0, False, 0), [0, 1, False, True])
        self.check((None, None), [None])
        self.check(("b", "a", "b", 10 ** 300, 10 ** 300), [10 ** 300, "a", "b"])

    def test_numbers_and_words(self):
        self.check((10, 9, -1, -10, 10 ** 300, -(10 ** 300)), [-(10 ** 300), -10, -1, 9, 10, 10 ** 300])
        self.check(("b", "a1", "a", "b1", "ab", "z", "a10", "a9"), ["a", "a1", "a10", "a9", "ab", "b", "b1", "z"])

    def test_all_rows_of_three(self):
        for row in itertools.product(VALUES, repeat=3):
            self.check(row, ordered(row))


class ShowTest(unittest.TestCase):
    def test_texts(self):
        rows = ((None, "none"), (True, "true"), (False, "false"), (0, "0"), (1, "1"), (-12, "-12"),
                ("none", "'none"), ("a", "'a"), ("true", "'true"), ("a1", "'a1"))
        for value, text in rows:
            self.assertEqual(show(value), text)
            self.assertEqual(show(value=value), text)

    def test_great_numbers(self):
        self.assertEqual(show(10 ** 3999), "1" + "0" * 3999)
        self.assertEqual(show(-(10 ** 300)), "-1" + "0" * 300)

    def test_others_are_a_matter_of_is_value(self):
        self.assertEqual([value for value in OTHERS if is_value(value)], [10 ** 300])
