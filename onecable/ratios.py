"""Fractions of whole numbers in lowest terms."""

from math import gcd

from onecable.errors import BadRatio


def _has_digits_only(text):
    """True if the text is one or more digits from 0 to 9."""
    return text.isascii() and text.isdigit()


def _ratio_of(number):
    """The ratio with the value of a ratio or a whole number."""
    if isinstance(number, Ratio):
        return number
    return Ratio(number, 1)


class Ratio:
    """The fraction num / den: den is at least 1, and nothing above 1 divides both."""

    def __init__(self, num, den):
        if den == 0:
            raise BadRatio("the denominator is 0")
        common = gcd(num, den)
        if den < 0:
            # A negative divisor moves the sign from the denominator to the numerator.
            common = -common
        self.num = num // common
        self.den = den // common

    @classmethod
    def parse(cls, text):
        """The ratio that is written so."""
        head, slash, tail = text.partition("/")
        if slash == "":
            tail = "1"
        if not (_has_digits_only(head.removeprefix("-")) and _has_digits_only(tail)):
            raise BadRatio("the text is not a ratio")
        ratio = cls(int(head), int(tail))
        # Each ratio is written in one way only, so this refuses 2/4, 3/1, -0 and 03.
        if str(ratio) != text:
            raise BadRatio("the text is not the written form of its ratio")
        return ratio

    def __str__(self):
        if self.den == 1:
            return str(self.num)
        return f"{self.num}/{self.den}"

    def __eq__(self, other):
        return isinstance(other, Ratio) and self.num == other.num and self.den == other.den

    def compare(self, other):
        """-1, 0 or 1 if this is less than, equal to or greater than a ratio or a whole number."""
        difference = self - other
        if difference.num < 0:
            return -1
        if difference.num > 0:
            return 1
        return 0

    def __neg__(self):
        return Ratio(-self.num, self.den)

    def __abs__(self):
        return Ratio(abs(self.num), self.den)

    def __add__(self, other):
        right = _ratio_of(other)
        return Ratio(self.num * right.den + right.num * self.den, self.den * right.den)

    def __radd__(self, other):
        return self + other

    def __sub__(self, other):
        return self + -other

    def __rsub__(self, other):
        return -self + other

    def __mul__(self, other):
        right = _ratio_of(other)
        return Ratio(self.num * right.num, self.den * right.den)

    def __rmul__(self, other):
        return self * other

    def __floordiv__(self, other):
        right = _ratio_of(other)
        if right.num == 0:
            raise BadRatio("a division by 0")
        return (self.num * right.den) // (self.den * right.num)

    def __mod__(self, other):
        return self - other * (self // other)
