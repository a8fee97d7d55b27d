"""Fractions in lowest terms."""

from math import gcd

from hadnot.errors import NoRatio


class Ratio:
    """A fraction of two numbers."""

    def __init__(self, top, bottom=1):
        if bottom == 0:
            raise NoRatio()
        common = gcd(top, bottom)
        # The sign goes to the top.
        if bottom < 0:
            common = -common
        self.top = top // common
        self.bottom = bottom // common

    def __eq__(self, other):
        return isinstance(other, Ratio) and self.top == other.top and self.bottom == other.bottom

    def __bool__(self):
        return bool(self.top)

    def __str__(self):
        if self.bottom == 1:
            return str(self.top)
        return f"{self.top}/{self.bottom}"

    def __add__(self, other):
        return Ratio(self.top * other.bottom + other.top * self.bottom, self.bottom * other.bottom)

    def __sub__(self, other):
        return Ratio(self.top * other.bottom - other.top * self.bottom, self.bottom * other.bottom)

    def __mul__(self, other):
        return Ratio(self.top * other.top, self.bottom * other.bottom)

    def __neg__(self):
        return Ratio(-self.top, self.bottom)

    def below(self, other):
        """Whether this ratio is less than another one."""
        return self.top * other.bottom < other.top * self.bottom

    def padded(self, width):
        """The text with spaces in front up to a width."""
        return str(self).rjust(width)
