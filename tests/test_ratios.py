"""[7]: ratios, held against Python's fractions."""

import itertools
import unittest
from fractions import Fraction

from hadnot.errors import NoRatio
from hadnot.ratios import Ratio

TOPS = (0, 1, -1, 2, -3, 4, 6, -12, 35, 10 ** 40, -(10 ** 40) - 2)
BOTTOMS = (1, -1, 2, -2, 3, 6, -8, 12, 10 ** 30, -3 * 10 ** 30)
PAIRS = tuple(itertools.product(TOPS, BOTTOMS))


def fraction(ratio):
    return Fraction(ratio.top, ratio.bottom)


class RatioTest(unittest.TestCase):
    def check(self, ratio, wanted):
        self.assertIsInstance(ratio, Ratio)
        self.assertEqual((ratio.top, ratio.bottom), (wanted.numerator, wanted.denominator))

    def test_lowest_terms(self):
        for top, bottom in PAIRS:
            self.check(Ratio(top, bottom), Fraction(top, bottom))
            self.check(Ratio(bottom=bottom, top=top), Fraction(top, bottom))
        self.check(Ratio(7), Fraction(7))
        self.assertEqual((Ratio(0, -5).top, Ratio(0, -5).bottom), (0, 1))
        self.assertEqual((Ratio(6, -4).top, Ratio(6, -4).bottom), (-3, 2))

    def test_no_ratio(self):
        for top in TOPS:
            self.assertRaises(NoRatio, Ratio, top, 0)

    def test_operators(self):
        for one, other in itertools.product(PAIRS[::3], PAIRS[::4]):
            first, second = Ratio(*one), Ratio(*other)
            left, right = Fraction(*one), Fraction(*other)
            self.check(first + second, left + right)
            self.check(first - second, left - right)
            self.check(first * second, left * right)
            self.assertIs(first.below(second), left < right)
            self.assertIs(first.below(other=second), left < right)
            self.assertIs(first == second, left == right)
            self.assertIs(first != second, left != right)
            self.check(first, left)
        for pair in PAIRS:
            self.check(-Ratio(*pair), -Fraction(*pair))

    def test_truth(self):
        for pair in PAIRS:
            self.assertIs(bool(Ratio(*pair)), pair[0] != 0)

    def test_equal_to_no_other_object(self):
        for other in (1, True, "1", None, (1, 1), Fraction(1), [1], object()):
            self.assertIs(Ratio(1) == other, False)
            self.assertTrue(Ratio(1) != other)
            self.assertIs(other == Ratio(1), False)
        self.assertIs(Ratio(0) == 0, False)
        self.assertIs(Ratio(1, 2) == Ratio(2, 1), False)
        self.assertIs(Ratio(2, 4) == Ratio(-1, -2), True)

    def test_texts(self):
        for pair in PAIRS:
            self.assertEqual(str(Ratio(*pair)), str(Fraction(*pair)))
        rows = ((0, 3, "0"), (5, 1, "5"), (-5, 1, "-5"), (1, -2, "-1/2"), (4, 6, "2/3"), (6, 3, "2"))
        for top, bottom, text in rows:
            self.assertEqual(str(Ratio(top, bottom)), text)

    def test_padded(self):
        self.assertEqual(Ratio(-1, 2).padded(6), "  -1/2")
        self.assertEqual(Ratio(-1, 2).padded(width=5), " -1/2")
        for width in range(1, 31):
            for ratio in (Ratio(0), Ratio(-1, 2), Ratio(12345, 678), Ratio(10 ** 40, 3)):
                text = str(ratio)
                self.assertEqual(ratio.padded(width), " " * max(0, width - len(text)) + text)
