"""Point 18 and the interface of onecable/days.py."""

import unittest

from onecable.days import check_day, day_hours, demand
from onecable.errors import BadDay, CableError
from tests.draws import Draws

CAR = (0, 2, 1)


class DayTest(unittest.TestCase):
    def refuses(self, place, width, cars):
        with self.assertRaises(BadDay) as caught:
            check_day(width, cars)
        self.assertEqual(caught.exception.place, place)
        self.assertIsInstance(caught.exception, CableError)

    def refuses_car(self, car):
        self.refuses(0, 1, [car])
        self.refuses(2, 1, [CAR, CAR, car, CAR])
        self.refuses(59, 12, [CAR] * 59 + [car])


class Checks(DayTest):
    def test_interface(self):
        for function in (check_day, day_hours, demand):
            self.assertEqual(function.__module__, "onecable.days")

    def test_right_days(self):
        self.assertIsNone(check_day(1, []))
        self.assertIsNone(check_day(width=12, cars=[CAR] * 60))
        self.assertIsNone(check_day(2, [(0, 1, 1), (60, 12, 12), (60, 12, 1), (30, 5, 3)]))
        self.assertIsNone(check_day(2, ((0, 1, 1), (60, 12, 12))))

    def test_widths(self):
        for width in range(1, 13):
            self.assertIsNone(check_day(width, [CAR]))
        for width in (0, 13, -1, 10 ** 20, -10 ** 20):
            self.refuses(-1, width, [])
            self.refuses(-1, width, [CAR])

    def test_numbers_of_cars(self):
        for many in (0, 1, 59, 60):
            self.assertIsNone(check_day(1, [CAR] * many))
        self.refuses(60, 1, [CAR] * 61)
        self.refuses(60, 1, [CAR] * 100)
        self.refuses(60, 1, [CAR] * 60 + [(61, 0, 0)])

    def test_come(self):
        for come in (0, 1, 59, 60):
            self.assertIsNone(check_day(1, [(come, 12, 12)]))
        for come in (-1, 61, -60, 10 ** 20):
            self.refuses_car((come, 2, 1))

    def test_stay(self):
        for stay in range(1, 13):
            self.assertIsNone(check_day(1, [(60, stay, 1)]))
        for stay in (0, 13, -1, 10 ** 20):
            self.refuses_car((0, stay, 1))

    def test_need(self):
        for stay in range(1, 13):
            for need in range(1, stay + 1):
                self.assertIsNone(check_day(1, [(0, stay, need)]))
            for need in (0, -1, stay + 1, 10 ** 20):
                self.refuses_car((0, stay, need))

    def test_width_first_then_the_least_index(self):
        self.refuses(-1, 0, [(61, 1, 1)])
        self.refuses(-1, 13, [CAR] * 61)
        self.refuses(1, 1, [CAR, (0, 13, 1), (61, 1, 1), (0, 1, 0)])
        self.refuses(1, 1, [CAR, (0, 1, 2), (61, 1, 1)] + [CAR] * 60)
        self.refuses(59, 1, [CAR] * 59 + [(-1, 1, 1)] * 10)

    def test_cars_stay_as_they_are(self):
        cars = [CAR, (3, 2, 2)]
        check_day(1, cars)
        day_hours(cars)
        hours = [3, 1]
        demand(cars, hours)
        self.assertEqual((cars, hours), ([CAR, (3, 2, 2)], [3, 1]))
        wrong = [CAR, (3, 2, 3)]
        self.refuses(1, 1, wrong)
        self.assertEqual(wrong, [CAR, (3, 2, 3)])


class Hours(DayTest):
    def test_without_cars(self):
        self.assertEqual([day_hours([]), day_hours(())], [0, 0])

    def test_greatest_end(self):
        self.assertEqual(day_hours([(0, 1, 1)]), 1)
        self.assertEqual(day_hours(cars=[(0, 9, 1), (3, 2, 1), (5, 3, 3)]), 9)
        self.assertEqual(day_hours([(3, 2, 1), (7, 1, 1), (0, 1, 1)]), 8)
        self.assertEqual(day_hours(((60, 12, 1), (60, 1, 1))), 72)


class Demands(DayTest):
    CARS = [(0, 3, 2), (1, 1, 1), (2, 4, 4), (4, 2, 1)]

    def test_plain_examples(self):
        self.assertEqual(demand(self.CARS, []), 0)
        self.assertEqual(demand(self.CARS, [0, 1, 2, 3, 4, 5]), 8)
        self.assertEqual(demand(self.CARS, [1]), 1)
        self.assertEqual(demand(self.CARS, [0, 1]), 2)
        self.assertEqual(demand(self.CARS, [2]), 1)
        self.assertEqual(demand(self.CARS, [4, 5]), 3)
        self.assertEqual(demand(cars=tuple(self.CARS), hours=[4]), 1)

    def test_no_cars(self):
        self.assertEqual([demand([], []), demand([], [0, 5]), demand((), [3])], [0, 0, 0])

    def test_hours_outside(self):
        self.assertEqual(demand(self.CARS, [6, 7, 100]), 0)
        self.assertEqual(demand(self.CARS, [100, 1, 6]), 1)
        self.assertEqual(demand([(5, 2, 2)], [4, 7, 3]), 0)
        self.assertEqual(demand([(5, 2, 2)], [5]), 1)
        self.assertEqual(demand([(5, 2, 2)], [6]), 1)

    def test_any_order(self):
        for hours in ([0, 1, 4, 5], [5, 4, 1, 0], [4, 0, 5, 1]):
            self.assertEqual(demand(self.CARS, hours), 5)

    def test_against_the_words(self):
        draws = Draws(18)
        for _ in range(300):
            cars = draws.cars(draws.number(0, 8), 9, 6)
            hours = draws.some_of(range(18), draws.number(0, 18))
            expected = 0
            for come, stay, need in cars:
                window = set(range(come, come + stay))
                expected += max(0, need - len(window - set(hours)))
            self.assertEqual(demand(cars, hours), expected)


if __name__ == "__main__":
    unittest.main()
