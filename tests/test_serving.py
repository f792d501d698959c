"""Points 20 and 21, what points 1 and 9 say of an hour, and the interface of onecable/serving.py."""

import unittest

from onecable.errors import BadDay
from onecable.plans import Plan
from onecable.rules import Rule
from onecable.serving import run_rule, serve_hour
from tests.draws import Draws

WORDS = ["stay", "need", "left", "want", "here", "got", "slack"]


def drawn_rule(draws):
    return Rule([(draws.one_of(["least", "most"]), word) for word in draws.some_of(WORDS, draws.number(0, 4))])


def simulated(width, cars, rule):
    """The hours of the plan that the rule makes, car by car and hour by hour, without any of the package's steps."""
    want = [need for _, _, need in cars]
    in_order = sorted(range(len(cars)), key=lambda number: (cars[number][0], number))
    hours = []
    for hour in range(max([come + stay for come, stay, _ in cars], default=0)):
        there = [number for number in in_order
                 if cars[number][0] <= hour < cars[number][0] + cars[number][1] and want[number] > 0]
        keys = {}
        for place, number in enumerate(there):
            come, stay, need = cars[number]
            left = come + stay - hour
            measures = {"stay": stay, "need": need, "left": left, "want": want[number], "here": hour - come,
                        "got": need - want[number], "slack": left - want[number]}
            key = [measures[word] * (1 if side == "least" else -1) for side, word in rule.terms]
            keys[number] = (key, place)
        served = sorted(there, key=lambda number: keys[number])[:width]
        for number in served:
            want[number] -= 1
        hours.append(tuple(sorted(served)))
    return hours


class OneHour(unittest.TestCase):
    def test_interface(self):
        self.assertEqual([serve_hour.__module__, run_rule.__module__], ["onecable.serving"] * 2)

    def test_nobody(self):
        self.assertEqual([serve_hour([], []), serve_hour((), [])], [((), 0), ((), 0)])

    def test_a_car_that_waits(self):
        self.assertEqual(serve_hour([(4, 2, 3, 2)], []), (((4, 2, 2, 2),), 0))

    def test_a_served_car_that_stays(self):
        self.assertEqual(serve_hour([(4, 2, 3, 2)], [0]), (((4, 2, 2, 1),), 0))

    def test_a_served_car_that_then_wants_nothing(self):
        self.assertEqual(serve_hour([(4, 2, 3, 1)], [0]), ((), 0))
        self.assertEqual(serve_hour([(4, 2, 1, 1)], [0]), ((), 0))

    def test_cars_that_leave_short(self):
        self.assertEqual(serve_hour([(4, 2, 1, 1)], []), ((), 1))
        self.assertEqual(serve_hour([(4, 3, 1, 3)], []), ((), 3))
        self.assertEqual(serve_hour([(4, 3, 1, 3)], [0]), ((), 2))
        self.assertEqual(serve_hour([(4, 4, 1, 4), (4, 3, 1, 2), (1, 1, 1, 1)], [1]), ((), 6))

    def test_a_want_greater_than_left(self):
        self.assertEqual(serve_hour([(4, 4, 2, 4)], []), (((4, 4, 1, 4),), 0))
        self.assertEqual(serve_hour([(4, 4, 2, 4)], [0]), (((4, 4, 1, 3),), 0))

    def test_several_cars(self):
        cars = [(4, 2, 3, 2), (2, 1, 1, 1), (3, 3, 3, 3), (4, 1, 2, 1), (4, 4, 1, 2)]
        self.assertEqual(serve_hour(cars, [2, 3]), (((4, 2, 2, 2), (3, 3, 2, 2)), 3))
        self.assertEqual(serve_hour(cars, [0, 1, 2, 3, 4]), (((4, 2, 2, 1), (3, 3, 2, 2)), 1))
        self.assertEqual(serve_hour(cars, [4, 0]), (((4, 2, 2, 1), (3, 3, 2, 3), (4, 1, 1, 1)), 2))

    def test_lists_and_tuples(self):
        cars = [(4, 2, 3, 2), (4, 2, 3, 2), (2, 1, 1, 1)]
        expected = (((4, 2, 2, 2), (4, 2, 2, 1)), 1)
        self.assertEqual(serve_hour(cars, [1]), expected)
        self.assertEqual(serve_hour(tuple(cars), [1]), expected)
        self.assertEqual(serve_hour(served=[1], cars=cars), expected)
        pair = serve_hour(cars, [1])
        self.assertEqual([type(pair), type(pair[0]), type(pair[0][0])], [tuple, tuple, tuple])

    def test_arguments_stay_as_they_are(self):
        cars = [(4, 2, 3, 2), (2, 1, 1, 1)]
        served = [1]
        serve_hour(cars, served)
        self.assertEqual((cars, served), ([(4, 2, 3, 2), (2, 1, 1, 1)], [1]))

    def test_against_the_words(self):
        draws = Draws(20)
        for _ in range(300):
            cars = []
            for _ in range(draws.number(0, 6)):
                stay = draws.number(1, 4)
                need = draws.number(1, stay)
                cars.append((stay, need, draws.number(1, stay), draws.number(1, need)))
            served = draws.some_of(range(len(cars)), draws.number(0, len(cars)))
            remaining, short = [], 0
            for index, car in enumerate(cars):
                stay, need, left, want = car
                want = want - served.count(index)
                left = left - 1
                if want == 0:
                    continue
                if left == 0:
                    short = short + want
                else:
                    remaining.append((stay, need, left, want))
            self.assertEqual(serve_hour(cars, served), (tuple(remaining), short))


class Runs(unittest.TestCase):
    def test_without_cars(self):
        self.assertEqual(run_rule(3, [], Rule([])), Plan(3, []))

    def test_plain_examples(self):
        cars = [(0, 2, 1), (0, 1, 1)]
        self.assertEqual(list(run_rule(1, cars, Rule([]))), [(0,), ()])
        self.assertEqual(list(run_rule(1, cars, Rule.parse("least left"))), [(1,), (0,)])
        self.assertEqual(list(run_rule(width=2, cars=cars, rule=Rule([]))), [(0, 1), ()])
        self.assertIsInstance(run_rule(1, cars, Rule([])), Plan)

    def test_first_come_goes_by_come(self):
        cars = [(2, 3, 2), (0, 4, 4), (1, 3, 2), (2, 2, 2), (0, 2, 1)]
        self.assertEqual(list(run_rule(1, cars, Rule([]))), [(1,), (1,), (1,), (1,), (0,)])
        self.assertEqual(list(run_rule(2, cars, Rule([]))), [(1, 4), (1, 2), (1, 2), (0, 1), (0,)])

    def test_equal_cars_by_their_numbers(self):
        cars = [(1, 2, 1), (1, 2, 1), (0, 3, 2), (1, 2, 1)]
        self.assertEqual(list(run_rule(1, cars, Rule.parse("least need"))), [(2,), (0,), (1,)])
        self.assertEqual(list(run_rule(1, cars, Rule.parse("most here"))), [(2,), (2,), (0,)])

    def test_an_hour_in_which_nobody_is_there(self):
        cars = [(3, 1, 1), (0, 3, 1)]
        self.assertEqual(list(run_rule(2, cars, Rule([]))), [(1,), (), (), (0,)])

    def test_the_plan_keeps_width_and_cars(self):
        cars = [(0, 2, 2), (0, 2, 2), (60, 12, 1)]
        plan = run_rule(1, cars, Rule.parse("least slack, most want"))
        self.assertEqual((plan.width, plan.cars, len(plan)), (1, tuple(cars), 72))
        self.assertEqual([plan.lack(number) for number in range(3)], [1, 1, 0])

    def test_against_a_plain_simulation(self):
        draws = Draws(21)
        for _ in range(250):
            cars = draws.cars(draws.number(0, 12), draws.one_of([0, 2, 6]), 6)
            rule = drawn_rule(draws)
            width = draws.number(1, 4)
            self.assertEqual(list(run_rule(width, cars, rule)), simulated(width, cars, rule))

    def test_against_a_plain_simulation_of_full_days(self):
        draws = Draws(210)
        for width in (1, 5, 12):
            cars = draws.cars(60, 60, 12)
            rule = drawn_rule(draws)
            self.assertEqual(list(run_rule(width, cars, rule)), simulated(width, cars, rule))

    def test_the_shortage_of_all_hours_is_the_lack_of_all_cars(self):
        draws = Draws(211)
        for _ in range(60):
            cars = sorted(draws.cars(draws.number(1, 8), 5, 4))
            rule = drawn_rule(draws)
            plan = run_rule(1, cars, rule)
            there, short = (), 0
            for hour in range(len(plan)):
                there += tuple((stay, need, stay, need) for come, stay, need in cars if come == hour)
                there, less = serve_hour(there, rule.serve(there, 1))
                short += less
            self.assertEqual(short, sum(plan.lack(number) for number in range(len(cars))))

    def test_wrong_days(self):
        for width, cars, place in ((0, [(0, 1, 1)], -1), (13, [], -1), (1, [(0, 1, 1), (0, 1, 2)], 1),
                                   (1, [(0, 1, 1)] * 61, 60), (0, [(61, 1, 1)], -1)):
            with self.assertRaises(BadDay) as caught:
                run_rule(width, cars, Rule([]))
            self.assertEqual(caught.exception.place, place)

    def test_cars_stay_as_they_are(self):
        cars = [(2, 3, 2), (0, 4, 4)]
        plan = run_rule(1, cars, Rule([]))
        self.assertEqual(cars, [(2, 3, 2), (0, 4, 4)])
        cars.clear()
        self.assertEqual(plan.cars, ((2, 3, 2), (0, 4, 4)))


if __name__ == "__main__":
    unittest.main()
