"""Point 12 and the interface of onecable/kinds.py."""

import unittest

from onecable.errors import BadKind, CableError
from onecable.kinds import Kind

WRONG_NAMES = ("", "abcdefghi", "abcdefghijklmnop", "Car", "cAr", "CAR", "car1", "1", "c r", " car", "car ", " ",
               "car-a", "car_a", "_", "car.", "~", "car\n", "a,b", "caf\u00e9")


class KindTest(unittest.TestCase):
    def refuses(self, part, *arguments):
        with self.assertRaises(BadKind) as caught:
            Kind(*arguments)
        self.assertEqual(caught.exception.part, part)
        self.assertIsInstance(caught.exception, CableError)


class Making(KindTest):
    def test_interface(self):
        self.assertEqual(Kind.__module__, "onecable.kinds")
        for name in ("slack", "car", "__str__", "__eq__"):
            self.assertIn(name, vars(Kind))
        self.assertIsInstance(vars(Kind)["slack"], property)

    def test_attributes(self):
        kind = Kind("van", 4, 2)
        self.assertEqual((kind.name, kind.stay, kind.need), ("van", 4, 2))
        kind = Kind(need=1, stay=3, name="bus")
        self.assertEqual((kind.name, kind.stay, kind.need), ("bus", 3, 1))

    def test_all_right_numbers(self):
        for stay in range(1, 5):
            for need in range(1, stay + 1):
                kind = Kind("a", stay, need)
                self.assertEqual((kind.stay, kind.need), (stay, need))

    def test_names(self):
        for name in ("a", "z", "m", "abcdefgh", "zzzzzzzz", "abcdefg", "kind", "stay", "need", "cable", "batch"):
            self.assertEqual(Kind(name, 1, 1).name, name)

    def test_wrong_names(self):
        for name in WRONG_NAMES:
            with self.subTest(name):
                self.refuses("name", name, 2, 1)

    def test_wrong_stays(self):
        for stay in (0, 5, -1, -4, 6, 10 ** 20, -10 ** 20):
            self.refuses("stay", "car", stay, 1)

    def test_wrong_needs(self):
        for stay in range(1, 5):
            for need in (0, -1, stay + 1, stay + 2, 10 ** 20):
                self.refuses("need", "car", stay, need)

    def test_the_first_wrong_part_counts(self):
        self.refuses("name", "", 0, 0)
        self.refuses("name", "Car", 5, 1)
        self.refuses("name", "Car", 2, 3)
        self.refuses("stay", "car", 0, 0)
        self.refuses("stay", "car", 5, 6)
        self.refuses("stay", "car", 5, 0)
        self.refuses("stay", "car", -2, -1)


class Reading(KindTest):
    def test_slack(self):
        self.assertEqual([Kind("a", stay, need).slack for stay, need in ((1, 1), (2, 1), (4, 1), (4, 3), (4, 4))],
                         [0, 1, 3, 1, 0])

    def test_car(self):
        self.assertEqual(Kind("a", 4, 2).car(), (4, 2, 4, 2))
        self.assertEqual(Kind("b", 1, 1).car(), (1, 1, 1, 1))
        self.assertIs(type(Kind("b", 3, 1).car()), tuple)

    def test_written_form(self):
        self.assertEqual(str(Kind("van", 4, 2)), "kind van stay 4 need 2")
        self.assertEqual(str(Kind("abcdefgh", 1, 1)), "kind abcdefgh stay 1 need 1")

    def test_equal(self):
        kind = Kind("van", 3, 2)
        self.assertIs(kind == Kind("van", 3, 2), True)
        self.assertIs(kind != Kind("van", 3, 2), False)
        for other in (Kind("vans", 3, 2), Kind("van", 2, 2), Kind("van", 4, 2), Kind("van", 3, 1), Kind("van", 3, 3)):
            self.assertIs(kind == other, False)
            self.assertIs(kind != other, True)


if __name__ == "__main__":
    unittest.main()
