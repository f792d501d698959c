"""Points 3, 4 and 5 and the interface of onecable/ratios.py."""

import unittest
from fractions import Fraction
from math import gcd

from onecable import ratios
from onecable.errors import BadRatio, CableError
from onecable.ratios import Ratio

BIG = int("9" * 60)
OTHER_BIG = int("7" * 59 + "1")
SMALL = [(num, den) for num in range(-7, 8) for den in (-6, -4, -3, -1, 1, 2, 3, 6)]
LARGE = [(BIG, OTHER_BIG), (-BIG, OTHER_BIG), (OTHER_BIG, -BIG), (BIG, BIG - 1), (BIG, 1), (1, -BIG)]
WHOLE = [-BIG, -7, -2, -1, 0, 1, 2, 3, 5, BIG]


def pair(ratio):
    return (ratio.num, ratio.den)


def of(fraction):
    return (fraction.numerator, fraction.denominator)


class Making(unittest.TestCase):
    def test_interface(self):
        self.assertEqual(Ratio.__module__, "onecable.ratios")
        for name in ("parse", "compare", "__str__", "__add__", "__sub__", "__mul__", "__neg__",
                     "__abs__", "__floordiv__", "__mod__", "__eq__"):
            self.assertIn(name, vars(Ratio))
        self.assertTrue(isinstance(vars(Ratio)["parse"], classmethod))
        self.assertTrue(hasattr(ratios, "Ratio"))

    def test_lowest_terms(self):
        self.assertEqual(pair(Ratio(6, 4)), (3, 2))
        self.assertEqual(pair(Ratio(6, 3)), (2, 1))
        self.assertEqual(pair(Ratio(5, 7)), (5, 7))

    def test_signs(self):
        self.assertEqual(pair(Ratio(6, -4)), (-3, 2))
        self.assertEqual(pair(Ratio(-6, 4)), (-3, 2))
        self.assertEqual(pair(Ratio(-6, -4)), (3, 2))

    def test_zero(self):
        for den in (1, -1, 5, -5, BIG, -BIG):
            self.assertEqual(pair(Ratio(0, den)), (0, 1))

    def test_sixty_digits(self):
        self.assertEqual(pair(Ratio(BIG, -1)), (-BIG, 1))
        self.assertEqual(pair(Ratio(BIG, 9)), (int("1" * 60), 1))
        self.assertEqual(pair(Ratio(BIG, BIG - 1)), (BIG, BIG - 1))

    def test_all_are_in_lowest_terms(self):
        for num, den in SMALL + LARGE:
            ratio = Ratio(num, den)
            self.assertGreaterEqual(ratio.den, 1)
            self.assertEqual(gcd(ratio.num, ratio.den), 1)
            self.assertEqual(ratio.num * den, num * ratio.den)

    def test_zero_below(self):
        for num in (0, 1, -1, BIG):
            with self.assertRaises(BadRatio) as caught:
                Ratio(num, 0)
            self.assertIsInstance(caught.exception, CableError)
            self.assertIsInstance(caught.exception, ValueError)

    def test_arguments_by_name(self):
        self.assertEqual(pair(Ratio(den=4, num=2)), (1, 2))


class Operators(unittest.TestCase):
    def check(self, ratio, fraction):
        self.assertIsInstance(ratio, Ratio)
        self.assertEqual(pair(ratio), of(fraction))

    def test_two_ratios(self):
        for a in SMALL[::5] + LARGE:
            for b in SMALL[::3] + LARGE:
                self.check(Ratio(*a) + Ratio(*b), Fraction(*a) + Fraction(*b))
                self.check(Ratio(*a) - Ratio(*b), Fraction(*a) - Fraction(*b))
                self.check(Ratio(*a) * Ratio(*b), Fraction(*a) * Fraction(*b))

    def test_whole_number_on_the_right(self):
        for a in SMALL + LARGE:
            for b in WHOLE:
                self.check(Ratio(*a) + b, Fraction(*a) + b)
                self.check(Ratio(*a) - b, Fraction(*a) - b)
                self.check(Ratio(*a) * b, Fraction(*a) * b)

    def test_whole_number_on_the_left(self):
        for b in SMALL + LARGE:
            for a in WHOLE:
                self.check(a + Ratio(*b), a + Fraction(*b))
                self.check(a - Ratio(*b), a - Fraction(*b))
                self.check(a * Ratio(*b), a * Fraction(*b))

    def test_plain_examples(self):
        self.assertEqual(str(Ratio(6, -4) + 1), "-1/2")
        self.assertEqual(str(1 - Ratio(1, 3)), "2/3")
        self.assertEqual(str(Ratio(1, 2) - Ratio(1, 2)), "0")
        self.assertEqual(str(3 * Ratio(1, 6)), "1/2")

    def test_negative_and_size(self):
        for a in SMALL + LARGE:
            self.check(-Ratio(*a), -Fraction(*a))
            self.check(abs(Ratio(*a)), abs(Fraction(*a)))

    def test_floor_and_rest_of_two_ratios(self):
        for a in SMALL + LARGE:
            for b in SMALL[::3] + LARGE:
                if b[0] != 0:
                    self.check_division(Ratio(*a), Ratio(*b), Fraction(*a), Fraction(*b))

    def test_floor_and_rest_by_a_whole_number(self):
        for a in SMALL + LARGE:
            for b in WHOLE:
                if b != 0:
                    self.check_division(Ratio(*a), b, Fraction(*a), Fraction(b))

    def check_division(self, a, b, plain_a, plain_b):
        whole = a // b
        self.assertIs(type(whole), int)
        self.assertEqual(whole, plain_a // plain_b)
        self.check(a % b, plain_a % plain_b)

    def test_floor_goes_down(self):
        self.assertEqual(Ratio(-7, 2) // 1, -4)
        self.assertEqual(Ratio(7, 2) // -1, -4)
        self.assertEqual(Ratio(-7, 2) // -1, 3)
        self.assertEqual(str(Ratio(-7, 2) % 2), "1/2")
        self.assertEqual(str(Ratio(7, 2) % -2), "-1/2")
        self.assertEqual(str(Ratio(7, 2) % Ratio(1, 2)), "0")

    def test_division_by_zero(self):
        for a in (Ratio(1, 2), Ratio(0, 1), Ratio(-BIG, 7)):
            for b in (0, Ratio(0, 5)):
                with self.assertRaises(BadRatio):
                    a // b
                with self.assertRaises(BadRatio):
                    a % b

    def test_operands_stay_as_they_are(self):
        a, b = Ratio(-3, 4), Ratio(5, 6)
        results = [a + b, a - b, a * b, -a, abs(a), a // b, a % b, a.compare(b), a == b, str(a)]
        self.assertEqual(len(results), 10)
        self.assertEqual([pair(a), pair(b)], [(-3, 4), (5, 6)])
        with self.assertRaises(BadRatio):
            a % 0
        self.assertEqual(pair(a), (-3, 4))


class Comparing(unittest.TestCase):
    def test_equal(self):
        self.assertIs(Ratio(2, 4) == Ratio(-1, -2), True)
        self.assertIs(Ratio(0, 3) == Ratio(0, -7), True)
        self.assertIs(Ratio(1, 2) == Ratio(-1, 2), False)
        self.assertIs(Ratio(1, 2) == Ratio(1, 3), False)
        self.assertIs(Ratio(1, 2) == Ratio(3, 2), False)
        self.assertIs(Ratio(1, 2) != Ratio(2, 4), False)
        self.assertIs(Ratio(1, 2) != Ratio(1, 3), True)

    def test_compare(self):
        for a in SMALL[::3] + LARGE:
            for b in SMALL[::5] + LARGE:
                order = (Fraction(*a) > Fraction(*b)) - (Fraction(*a) < Fraction(*b))
                self.assertEqual(Ratio(*a).compare(Ratio(*b)), order)
                self.assertEqual(Ratio(*b).compare(Ratio(*a)), -order)

    def test_compare_with_a_whole_number(self):
        for a in SMALL + LARGE:
            for b in WHOLE:
                order = (Fraction(*a) > b) - (Fraction(*a) < b)
                self.assertEqual(Ratio(*a).compare(b), order)

    def test_answers_are_numbers(self):
        for b in (Ratio(1, 3), Ratio(1, 2), Ratio(2, 3), 0, 1):
            self.assertIs(type(Ratio(1, 2).compare(b)), int)
        self.assertEqual(Ratio(1, 2).compare(other=Ratio(2, 4)), 0)


class WrittenForm(unittest.TestCase):
    def test_forms(self):
        forms = {(1, 2): "1/2", (-1, 2): "-1/2", (3, 1): "3", (-3, 1): "-3", (0, 9): "0", (10, 4): "5/2"}
        for numbers, text in forms.items():
            self.assertEqual(str(Ratio(*numbers)), text)

    def test_there_and_back(self):
        for numbers in SMALL + LARGE:
            ratio = Ratio(*numbers)
            back = Ratio.parse(str(ratio))
            self.assertIsInstance(back, Ratio)
            self.assertEqual(pair(back), pair(ratio))

    def test_long_texts(self):
        for text in ("9" * 200, "-" + "9" * 199, "1" * 99 + "/1" + "0" * 99, "-1/1" + "0" * 196):
            self.assertEqual(len(text), 200)
            self.assertEqual(str(Ratio.parse(text)), text)

    def test_refused(self):
        for text in ("2/4", "3/1", "-0", "03", "+1", "1/0", "1/-2", "", " 1", "1 ", "1 /2", "1/ 2", " ",
                     "0/1", "0/2", "0/0", "-0/1", "-3/1", "00", "-03", "1/02", "01/2", "-", "/", "1/", "/2",
                     "-/2", "--1", "1-", "-1/-2", "1/+2", "+1/2", "1/2/3", "1//2", "1.5", "1_0", "1e2", "a",
                     "1/b", "1,2", "-2/4", "1\n", "1/2\n", "0x1", "1/1", "4/-2", "-1 /2", "- 1"):
            with self.subTest(text):
                with self.assertRaises(BadRatio):
                    Ratio.parse(text)

    def test_argument_by_name(self):
        self.assertEqual(pair(Ratio.parse(text="-7/3")), (-7, 3))


if __name__ == "__main__":
    unittest.main()
