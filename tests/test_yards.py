"""Point 13 and the interface of onecable/yards.py."""

import unittest

from onecable import yards
from onecable.errors import BadRow, BadYard, CableError, UnknownName
from onecable.kinds import Kind
from onecable.rows import Row
from onecable.yards import Yard, make_yard

P = Kind("p", 2, 1)
Q = Kind("q", 1, 1)
R = Kind("r", 4, 3)
LETTERS = "abcdefgh"
MENU = [("early", ["p", "q"]), ("noon", ("q",)), ("late", ["p", "p", "r"])]


def kinds_of(names):
    return [Kind(name, 2, 1) for name in names]


class YardTest(unittest.TestCase):
    def refuses(self, part, place, *arguments):
        with self.assertRaises(BadYard) as caught:
            Yard(*arguments)
        self.assertEqual((caught.exception.part, caught.exception.place), (part, place))
        self.assertIsInstance(caught.exception, CableError)

    def refuses_row(self, place, call, *arguments):
        with self.assertRaises(BadRow) as caught:
            call(*arguments)
        self.assertEqual(caught.exception.place, place)

    def refuses_name(self, name, call):
        with self.assertRaises(UnknownName) as caught:
            call(name)
        self.assertEqual(caught.exception.name, name)


class Making(YardTest):
    def test_interface(self):
        self.assertEqual([Yard.__module__, make_yard.__module__], ["onecable.yards"] * 2)
        for name in ("letter_count", "span", "batch", "letter", "kind", "day", "__eq__"):
            self.assertIn(name, vars(Yard))
        self.assertIsInstance(vars(Yard)["letter_count"], property)
        self.assertIsInstance(vars(Yard)["span"], property)
        self.assertTrue(hasattr(yards, "make_yard"))

    def test_attributes(self):
        yard = Yard(2, [P, Q, R], MENU)
        self.assertEqual(yard.width, 2)
        self.assertIs(type(yard.kinds), tuple)
        self.assertEqual(yard.kinds, (P, Q, R))
        self.assertEqual(yard.menu, (("early", ("p", "q")), ("noon", ("q",)), ("late", ("p", "p", "r"))))
        self.assertEqual(Yard(menu=MENU, kinds=[P, Q, R], width=2), yard)

    def test_widths(self):
        for width in (1, 2, 3):
            self.assertEqual(Yard(width, [P], [("a", ["p"])]).width, width)
        for width in (0, 4, -1, 10 ** 20):
            self.refuses("width", 0, width, [P], [("a", ["p"])])

    def test_numbers_of_kinds(self):
        for many in (1, 5, 6):
            yard = Yard(1, kinds_of(LETTERS[:many]), [("a", ["a"])])
            self.assertEqual(len(yard.kinds), many)
        self.refuses("kinds", 0, 1, [], [("a", ["p"])])
        self.refuses("kinds", 6, 1, kinds_of(LETTERS[:7]), [("a", ["a"])])
        self.refuses("kinds", 6, 1, kinds_of(LETTERS[:8]), [("a", ["a"])])
        self.refuses("kinds", 6, 1, kinds_of("abcdefa"), [("a", ["a"])])

    def test_kinds_with_one_name(self):
        self.refuses("kinds", 1, 1, kinds_of("aa"), [("a", ["a"])])
        self.refuses("kinds", 2, 1, [P, Q, Kind("p", 4, 4)], [("a", ["p"])])
        self.refuses("kinds", 2, 1, kinds_of("abacb"), [("a", ["a"])])
        self.refuses("kinds", 5, 1, kinds_of("abcdeaf"), [("a", ["a"])])

    def test_numbers_of_batches(self):
        for many in (1, 3, 4):
            yard = Yard(1, [P], [(name, ["p"]) for name in LETTERS[:many]])
            self.assertEqual(len(yard.menu), many)
        self.refuses("menu", 0, 1, [P], [])
        self.refuses("menu", 4, 1, [P], [(name, ["p"]) for name in LETTERS[:5]])
        self.refuses("menu", 4, 1, [P], [(name, ["p"]) for name in "abcdaa"])

    def test_names_of_batches(self):
        for name in ("", "abcdefghi", "Noon", "noon1", "no on", "noon ", "no_on", "-"):
            with self.subTest(name):
                self.refuses("menu", 0, 1, [P], [(name, ["p"])])
                self.refuses("menu", 1, 1, [P], [("a", ["p"]), (name, ["p"])])
        self.assertEqual(Yard(1, [P], [("abcdefgh", ["p"]), ("p", ["p"])]).menu[1][0], "p")

    def test_batches_with_one_name(self):
        self.refuses("menu", 1, 1, [P, Q], [("a", ["p"]), ("a", ["q"])])
        self.refuses("menu", 3, 1, [P], [("a", ["p"]), ("b", ["p"]), ("c", ["p"]), ("b", ["p"]), ("e", ["p"])])

    def test_numbers_of_cars(self):
        for many in (1, 2, 3):
            self.assertEqual(Yard(1, [P], [("a", ["p"] * many)]).menu, (("a", ("p",) * many),))
        for many in (0, 4, 5):
            self.refuses("menu", 0, 1, [P], [("a", ["p"] * many)])
            self.refuses("menu", 2, 1, [P], [("a", ["p"]), ("b", ("p",)), ("c", ("p",) * many), ("d", [])])

    def test_cars_that_are_no_kind(self):
        for car in ("q", "", "P", "pp", "a"):
            self.refuses("menu", 0, 1, [P], [("a", [car])])
            self.refuses("menu", 1, 1, [P], [("a", ["p"]), ("b", ["p", "p", car]), ("c", [car])])

    def test_the_least_index_counts(self):
        good = ("a", ["p"])
        self.refuses("menu", 1, 1, [P], [good, ("b", []), ("B", ["p"]), ("a", ["p"])])
        self.refuses("menu", 1, 1, [P], [good, ("B", ["p"]), ("c", []), ("a", ["p"])])
        self.refuses("menu", 1, 1, [P], [good, ("a", ["p"]), ("c", []), ("D", ["p"]), good])
        self.refuses("menu", 1, 1, [P], [good, ("b", ["x"]), ("c", []), ("D", ["p"]), good])

    def test_order_of_the_parts(self):
        self.refuses("width", 0, 0, [], [])
        self.refuses("width", 0, 4, [P, P], [("a", ["p"])])
        self.refuses("width", 0, 4, [P], [])
        self.refuses("kinds", 0, 1, [], [])
        self.refuses("kinds", 1, 1, [P, P], [("a", [])])
        self.refuses("kinds", 6, 1, kinds_of(LETTERS), [])

    def test_arguments_are_copied(self):
        kinds = [P, Q]
        cars = ["p", "q"]
        menu = [("a", cars)]
        yard = Yard(1, kinds, menu)
        self.assertEqual((kinds, cars, menu), ([P, Q], ["p", "q"], [("a", ["p", "q"])]))
        kinds.append(R)
        cars.append("q")
        menu.append(("b", ["p"]))
        self.assertEqual(yard, Yard(1, [P, Q], [("a", ["p", "q"])]))
        self.assertEqual(yard.batch(1), [P.car(), Q.car()])
        self.assertEqual([yard.letter_count, yard.span], [2, 2])

    def test_refused_arguments_stay_as_they_are(self):
        kinds = [P, Q]
        menu = [("a", ["p", "x"])]
        self.refuses("menu", 0, 1, kinds, menu)
        self.assertEqual((kinds, menu), ([P, Q], [("a", ["p", "x"])]))

    def test_equal(self):
        yard = Yard(2, [P, Q], [("a", ["p", "q"]), ("b", ["q"])])
        self.assertIs(yard == Yard(2, [P, Q], [("a", ("p", "q")), ("b", ["q"])]), True)
        self.assertIs(yard != Yard(2, [Kind("p", 2, 1), Q], [("a", ("p", "q")), ("b", ["q"])]), False)
        others = [
            Yard(1, [P, Q], [("a", ["p", "q"]), ("b", ["q"])]),
            Yard(2, [Q, P], [("a", ["p", "q"]), ("b", ["q"])]),
            Yard(2, [P, Q, R], [("a", ["p", "q"]), ("b", ["q"])]),
            Yard(2, [Kind("p", 3, 1), Q], [("a", ["p", "q"]), ("b", ["q"])]),
            Yard(2, [Kind("p", 2, 2), Q], [("a", ["p", "q"]), ("b", ["q"])]),
            Yard(2, [P, Q], [("a", ["q", "p"]), ("b", ["q"])]),
            Yard(2, [P, Q], [("b", ["q"]), ("a", ["p", "q"])]),
            Yard(2, [P, Q], [("a", ["p", "q"]), ("c", ["q"])]),
            Yard(2, [P, Q], [("a", ["p", "q"])]),
        ]
        for other in others:
            self.assertIs(yard == other, False)
            self.assertIs(yard != other, True)


class Letters(YardTest):
    YARD = Yard(2, [P, Q, R], MENU)

    def test_letter_count_and_span(self):
        self.assertEqual(self.YARD.letter_count, 4)
        self.assertEqual(Yard(1, [P], [("a", ["p"])]).letter_count, 2)
        self.assertEqual(Yard(1, [P], [(name, ["p"]) for name in "abcd"]).letter_count, 5)
        self.assertEqual(self.YARD.span, 4)
        self.assertEqual(Yard(1, [Q], [("a", ["q"])]).span, 1)
        self.assertEqual(Yard(1, [Q, P], [("a", ["q"])]).span, 2)
        self.assertEqual(Yard(1, [Q, Kind("s", 3, 1), P], [("a", ["q"])]).span, 3)

    def test_batches(self):
        self.assertEqual(self.YARD.batch(0), [])
        self.assertEqual(self.YARD.batch(1), [(2, 1, 2, 1), (1, 1, 1, 1)])
        self.assertEqual(self.YARD.batch(2), [(1, 1, 1, 1)])
        self.assertEqual(self.YARD.batch(letter=3), [(2, 1, 2, 1), (2, 1, 2, 1), (4, 3, 4, 3)])

    def test_no_letters(self):
        for letter in (-1, 4, 5, -4, 10 ** 20):
            self.refuses_row(0, self.YARD.batch, letter)

    def test_a_returned_list_is_new(self):
        for letter in (0, 1):
            expected = list(self.YARD.batch(letter))
            self.YARD.batch(letter).append("other")
            self.assertEqual(self.YARD.batch(letter), expected)

    def test_names(self):
        self.assertEqual([self.YARD.letter(name) for name in ("early", "noon", "late")], [1, 2, 3])
        self.assertEqual(self.YARD.letter(name="noon"), 2)
        self.assertEqual([self.YARD.kind(name) for name in "rpq"], [R, P, Q])
        self.assertEqual(self.YARD.kind(name="q"), Q)

    def test_unknown_names(self):
        for name in ("", "Early", "noo", "noons", "p", "r"):
            self.refuses_name(name, self.YARD.letter)
        for name in ("", "P", "pp", "early", "noon", "s"):
            self.refuses_name(name, self.YARD.kind)

    def test_one_name_for_a_kind_and_a_batch(self):
        yard = Yard(1, [P, Q], [("q", ["p"]), ("p", ["q"])])
        self.assertEqual([yard.letter("q"), yard.letter("p")], [1, 2])
        self.assertEqual([yard.kind("q"), yard.kind("p")], [Q, P])


class Days(YardTest):
    YARD = Yard(2, [P, Q, R], MENU)

    def test_days(self):
        self.assertEqual(self.YARD.day(Row([])), [])
        self.assertEqual(self.YARD.day(Row([0, 0])), [])
        self.assertEqual(self.YARD.day(Row([1])), [(0, 2, 1), (0, 1, 1)])
        self.assertEqual(self.YARD.day(row=Row([2, 0, 3, 1])),
                         [(0, 1, 1), (2, 2, 1), (2, 2, 1), (2, 4, 3), (3, 2, 1), (3, 1, 1)])

    def test_beyond_the_limits_of_days(self):
        cars = self.YARD.day(Row([3] * 2000))
        self.assertEqual(len(cars), 6000)
        self.assertEqual(cars[-1], (1999, 4, 3))
        self.assertEqual(self.YARD.day(Row([0] * 70 + [2])), [(70, 1, 1)])
        self.assertEqual(len(self.YARD.day(Row([1] * 61))), 122)

    def test_letters_that_the_yard_does_not_have(self):
        self.refuses_row(0, self.YARD.day, Row([4]))
        self.refuses_row(2, self.YARD.day, Row([3, 0, 4, 1, 4]))
        yard = Yard(1, [P], [("a", ["p"])])
        self.refuses_row(1, yard.day, Row([1, 2, 4]))
        self.refuses_row(1999, yard.day, Row([1] * 1999 + [3]))

    def test_a_returned_list_is_new(self):
        row = Row([2, 1])
        self.YARD.day(row).clear()
        self.assertEqual(self.YARD.day(row), [(0, 1, 1), (1, 2, 1), (1, 1, 1)])


class MakingByKeywords(YardTest):
    def test_example(self):
        yard = make_yard(1, P, Q, early=["p", "q"], noon=("q",), late=["p"])
        self.assertEqual([yard.letter("late"), yard.batch(1)], [3, [(2, 1, 2, 1), (1, 1, 1, 1)]])
        self.assertIsInstance(yard, Yard)

    def test_in_order(self):
        yard = make_yard(3, R, P, Q, zoo=["r"], a=("p", "q"), menu=["q"], kinds=["p"])
        self.assertEqual(yard, Yard(3, [R, P, Q], [("zoo", ["r"]), ("a", ["p", "q"]), ("menu", ["q"]),
                                                   ("kinds", ["p"])]))

    def refuses_made(self, part, place, width, *kinds, **menu):
        with self.assertRaises(BadYard) as caught:
            make_yard(width, *kinds, **menu)
        self.assertEqual((caught.exception.part, caught.exception.place), (part, place))

    def test_refused(self):
        self.refuses_made("kinds", 0, 1, a=["p"])
        self.refuses_made("kinds", 0, 1)
        self.refuses_made("menu", 0, 1, P)
        self.refuses_made("width", 0, 4, P, a=["p"])
        self.refuses_made("kinds", 1, 1, P, P, a=["p"])
        self.refuses_made("menu", 1, 1, P, a=["p"], B=["p"])
        self.refuses_made("menu", 4, 1, P, a=["p"], b=["p"], c=["p"], d=["p"], e=["p"])

    def test_arguments_are_copied(self):
        cars = ["p", "q"]
        yard = make_yard(1, P, Q, a=cars)
        cars.clear()
        self.assertEqual(yard.menu, (("a", ("p", "q")),))


if __name__ == "__main__":
    unittest.main()
