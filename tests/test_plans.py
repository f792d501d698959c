"""Point 19 and the interface of onecable/plans.py."""

import unittest

from onecable.errors import BadDay, BadPlan, CableError
from onecable.plans import Plan
from tests.draws import Draws

CARS = [(0, 3, 1), (0, 3, 2), (1, 2, 1), (2, 2, 2), (0, 4, 4)]


def plan_of(width, cars, hours):
    plan = Plan(width, cars)
    for hour, numbers in enumerate(hours):
        plan.set_hour(hour, numbers)
    return plan


class PlanTest(unittest.TestCase):
    def refuses(self, part, call, *arguments):
        with self.assertRaises(BadPlan) as caught:
            call(*arguments)
        self.assertEqual(caught.exception.part, part)
        self.assertIsInstance(caught.exception, CableError)

    def refuses_hour(self, part, plan, hour, numbers):
        """Refused as a call and as an assignment, from a list and from a tuple, with nothing changed."""
        before = list(plan)
        for given in (list(numbers), tuple(numbers)):
            self.refuses(part, plan.set_hour, hour, given)
            with self.assertRaises(BadPlan) as caught:
                plan[hour] = given
            self.assertEqual(caught.exception.part, part)
            self.assertEqual(list(given), list(numbers))
        self.assertEqual(list(plan), before)


class Making(PlanTest):
    def test_interface(self):
        self.assertEqual(Plan.__module__, "onecable.plans")
        for name in ("set_hour", "got", "lack", "hours_of", "room", "total", "clone", "__getitem__", "__setitem__",
                     "__len__", "__iter__", "__eq__"):
            self.assertIn(name, vars(Plan))

    def test_a_new_plan(self):
        plan = Plan(2, CARS)
        self.assertEqual((plan.width, plan.cars), (2, tuple(CARS)))
        self.assertIs(type(plan.cars), tuple)
        self.assertTrue(all(type(car) is tuple for car in plan.cars))
        self.assertEqual(len(plan), 4)
        self.assertEqual(list(plan), [(), (), (), ()])
        self.assertEqual([plan.got(number) for number in range(5)], [0] * 5)
        self.assertEqual([plan.lack(number) for number in range(5)], [1, 2, 1, 2, 4])
        self.assertEqual([plan.hours_of(number) for number in range(5)], [[]] * 5)
        self.assertEqual([plan.room(hour) for hour in range(4)], [2] * 4)
        self.assertEqual(plan.total(), 0)

    def test_without_cars(self):
        plan = Plan(width=3, cars=[])
        self.assertEqual((plan.cars, len(plan), list(plan), plan.total()), ((), 0, [], 0))
        self.refuses("hour", lambda: plan[0])
        self.refuses("car", plan.got, 0)

    def test_hours_before_the_first_car(self):
        plan = Plan(1, [(60, 12, 5)])
        self.assertEqual(len(plan), 72)
        plan[71] = [0]
        self.assertEqual(plan.hours_of(0), [71])

    def test_wrong_days(self):
        for width, cars, place in ((0, CARS, -1), (13, [], -1), (1, CARS + [(0, 1, 2)], 5), (1, [(0, 1, 1)] * 61, 60),
                                   (0, [(61, 1, 1)], -1), (1, [(61, 1, 1), (0, 0, 0)], 0)):
            with self.assertRaises(BadDay) as caught:
                Plan(width, cars)
            self.assertEqual(caught.exception.place, place)

    def test_cars_are_copied(self):
        cars = list(CARS)
        plan = Plan(2, cars)
        self.assertEqual(cars, CARS)
        cars.append((50, 1, 1))
        cars[0] = (9, 9, 9)
        self.assertEqual(plan.cars, tuple(CARS))
        self.assertEqual(len(plan), 4)
        self.refuses("car", plan.got, 5)


class Setting(PlanTest):
    def test_call_and_assignment(self):
        plan = Plan(2, CARS)
        self.assertIsNone(plan.set_hour(0, [1, 4]))
        plan[1] = [2, 1]
        plan[2] = (3, 4)
        self.assertIsNone(plan.set_hour(hour=3, numbers=(4,)))
        self.assertEqual(list(plan), [(1, 4), (1, 2), (3, 4), (4,)])
        self.assertEqual([plan[hour] for hour in range(4)], [(1, 4), (1, 2), (3, 4), (4,)])
        self.assertEqual([hour for hour in plan], [(1, 4), (1, 2), (3, 4), (4,)])
        self.assertTrue(all(type(hour) is tuple for hour in plan))

    def test_any_order(self):
        for given in ([1, 4, 0], [4, 0, 1], (0, 4, 1), (4, 1, 0)):
            plan = Plan(3, CARS)
            plan[0] = given
            self.assertEqual(plan[0], (0, 1, 4))
        cars = [(0, 1, 1)] * 12
        plan = Plan(12, cars)
        plan[0] = [11, 2, 10, 1, 9, 3, 0]
        self.assertEqual(plan[0], (0, 1, 2, 3, 9, 10, 11))

    def test_again(self):
        plan = plan_of(2, CARS, [[0, 1], [1, 2]])
        plan[0] = [1, 0]
        self.assertEqual(plan[0], (0, 1))
        plan[0] = (0, 4)
        self.assertEqual(plan[0], (0, 4))
        plan[0] = []
        self.assertEqual(list(plan), [(), (1, 2), (), ()])
        plan[1] = ()
        self.assertEqual(plan.total(), 0)

    def test_a_full_car_in_its_own_hour(self):
        plan = plan_of(2, CARS, [[0, 1], [1]])
        plan[0] = [0]
        plan[0] = [0, 1]
        plan[1] = [1, 4]
        self.assertEqual(list(plan), [(0, 1), (1, 4), (), ()])
        self.refuses_hour("need", plan, 2, [1])
        self.refuses_hour("need", plan, 1, [0])
        plan[0] = [1]
        plan[2] = [0]
        self.assertEqual(plan.hours_of(0), [2])

    def test_numbers_are_copied(self):
        plan = Plan(2, CARS)
        numbers = [4, 1]
        plan.set_hour(0, numbers)
        self.assertEqual(numbers, [4, 1])
        numbers.append(0)
        numbers[0] = 2
        self.assertEqual(plan[0], (1, 4))
        other = [1, 0]
        plan[1] = other
        other.clear()
        self.assertEqual(plan[1], (0, 1))

    def test_windows(self):
        plan = Plan(1, [(2, 3, 3)])
        for hour in (0, 1):
            self.refuses_hour("stay", plan, hour, [0])
        for hour in (2, 3, 4):
            plan[hour] = [0]
        self.assertEqual([len(plan), plan.lack(0)], [5, 0])


class Checks(PlanTest):
    def setUp(self):
        # Car 0 is full, car 3 is not there in hour 1.
        self.plan = plan_of(2, CARS, [[0]])

    def test_hour(self):
        for hour in (-1, -4, 4, 5, 10 ** 20, -10 ** 20):
            self.refuses_hour("hour", self.plan, hour, [])
            self.refuses_hour("hour", self.plan, hour, [4])
            self.refuses("hour", lambda: self.plan[hour])

    def test_car(self):
        for number in (-1, 5, -5, 10 ** 20):
            self.refuses_hour("car", self.plan, 1, [number])
            self.refuses_hour("car", self.plan, 1, [1, number])

    def test_twice(self):
        self.refuses_hour("twice", self.plan, 1, [1, 1])
        self.refuses_hour("twice", Plan(3, CARS), 1, [4, 1, 4])

    def test_width(self):
        self.refuses_hour("width", self.plan, 1, [1, 2, 4])
        self.refuses_hour("width", Plan(1, CARS), 1, [1, 4])
        Plan(3, CARS).set_hour(1, [1, 2, 4])

    def test_stay(self):
        self.refuses_hour("stay", self.plan, 1, [3])
        self.refuses_hour("stay", self.plan, 1, [1, 3])
        self.refuses_hour("stay", self.plan, 0, [2])
        self.refuses_hour("stay", self.plan, 3, [2])
        self.refuses_hour("stay", self.plan, 3, [4, 1])

    def test_need(self):
        self.refuses_hour("need", self.plan, 1, [0])
        self.refuses_hour("need", self.plan, 2, [4, 0])
        self.plan[1] = [1]
        self.plan[2] = [1]
        self.refuses_hour("need", self.plan, 0, [1])
        self.refuses_hour("need", self.plan, 0, [0, 1])

    def test_hour_before_the_others(self):
        for numbers in ([5], [-1], [1, 1], [1, 2, 4], [3], [0], [0, 0, 5]):
            self.refuses_hour("hour", self.plan, 4, numbers)
            self.refuses_hour("hour", self.plan, -1, numbers)

    def test_car_before_the_others(self):
        for numbers in ([1, 1, 5], [1, 1, -1], [1, 2, 4, 5], [3, 5], [0, 5], [0, -1], [5, 5], [3, 3, 0, 5]):
            self.refuses_hour("car", self.plan, 1, numbers)

    def test_twice_before_the_others(self):
        for numbers in ([1, 2, 4, 1], [4, 1, 1], [3, 3], [0, 0], [3, 1, 1], [0, 1, 1], [0, 3, 4, 4]):
            self.refuses_hour("twice", self.plan, 1, numbers)

    def test_width_before_the_others(self):
        for numbers in ([3, 1, 4], [0, 1, 4], [0, 3, 2], [3, 0, 1, 2, 4]):
            self.refuses_hour("width", self.plan, 1, numbers)

    def test_stay_before_need(self):
        for numbers in ([0, 3], [3, 0]):
            self.refuses_hour("stay", self.plan, 1, numbers)
        self.refuses_hour("stay", self.plan, 3, [0])


class Reading(PlanTest):
    def test_after_several_sets(self):
        plan = plan_of(2, CARS, [[4, 1], [2, 4], [4, 3], [3]])
        self.assertEqual([plan.got(number) for number in range(5)], [0, 1, 1, 2, 3])
        self.assertEqual([plan.lack(number) for number in range(5)], [1, 1, 0, 0, 1])
        self.assertEqual([plan.hours_of(number) for number in range(5)], [[], [0], [1], [2, 3], [0, 1, 2]])
        self.assertEqual([plan.room(hour) for hour in range(4)], [0, 0, 0, 1])
        self.assertEqual(plan.total(), 7)
        plan[1] = []
        plan[2] = [1]
        self.assertEqual([plan.got(number) for number in range(5)], [0, 2, 0, 1, 1])
        self.assertEqual(plan.hours_of(number=1), [0, 2])
        self.assertEqual([plan.room(hour) for hour in range(4)], [0, 2, 1, 1])
        self.assertEqual([plan.got(number=4), plan.lack(number=4), plan.room(hour=1), plan.total()], [1, 3, 2, 4])

    def test_wrong_numbers_and_hours(self):
        plan = plan_of(2, CARS, [[4, 1]])
        for number in (-1, 5, -5, 60, 10 ** 20):
            for call in (plan.got, plan.lack, plan.hours_of):
                self.refuses("car", call, number)
        for hour in (-1, 4, -4, 10 ** 20):
            self.refuses("hour", plan.room, hour)
            self.refuses("hour", lambda: plan[hour])

    def test_a_returned_list_is_new(self):
        plan = plan_of(2, CARS, [[4, 1], [4]])
        plan.hours_of(4).append(3)
        self.assertEqual([plan.hours_of(4), plan.got(4), list(plan)], [[0, 1], 2, [(1, 4), (4,), (), ()]])

    def test_against_plain_counting(self):
        draws = Draws(19)
        for _ in range(40):
            cars = draws.cars(draws.number(1, 8), 5, 5)
            width = draws.number(1, 3)
            plan = Plan(width, cars)
            hours = [[] for _ in plan]
            for _ in range(60):
                hour = draws.number(0, len(plan) - 1)
                numbers = draws.some_of(range(len(cars)), draws.number(0, min(width, len(cars))))
                try:
                    plan[hour] = numbers
                    hours[hour] = sorted(numbers)
                except BadPlan as wrong:
                    self.assertIn(wrong.part, ("stay", "need"))
            self.assertEqual([list(numbers) for numbers in plan], hours)
            for number, (_, _, need) in enumerate(cars):
                served = [hour for hour, numbers in enumerate(hours) if number in numbers]
                self.assertEqual(plan.hours_of(number), served)
                self.assertEqual((plan.got(number), plan.lack(number)), (len(served), need - len(served)))
            self.assertEqual([plan.room(hour) for hour in range(len(plan))],
                             [width - len(numbers) for numbers in hours])
            self.assertEqual(plan.total(), sum(len(numbers) for numbers in hours))


class Twins(PlanTest):
    def test_clone(self):
        plan = plan_of(2, CARS, [[4, 1], [2, 4]])
        twin = plan.clone()
        self.assertIsInstance(twin, Plan)
        self.assertIs(twin == plan, True)
        self.assertEqual((twin.width, twin.cars, list(twin)), (2, tuple(CARS), [(1, 4), (2, 4), (), ()]))

    def test_clone_is_independent(self):
        plan = plan_of(2, CARS, [[4, 1], [2, 4]])
        twin = plan.clone()
        twin[0] = [0]
        twin.set_hour(3, [3])
        self.assertEqual(list(plan), [(1, 4), (2, 4), (), ()])
        self.assertEqual(list(twin), [(0,), (2, 4), (), (3,)])
        plan[1] = []
        self.assertEqual(list(twin), [(0,), (2, 4), (), (3,)])
        self.assertEqual([plan.total(), twin.total()], [2, 4])
        self.assertIs(plan == twin, False)

    def test_equal(self):
        plan = plan_of(2, CARS, [[4, 1], [2]])
        self.assertIs(plan == plan_of(2, tuple(CARS), [(1, 4), (2,)]), True)
        self.assertIs(plan != plan_of(2, CARS, [[1, 4], [2]]), False)
        others = [
            plan_of(3, CARS, [[4, 1], [2]]),
            plan_of(2, CARS[:3] + [(2, 2, 1)] + CARS[4:], [[4, 1], [2]]),
            plan_of(2, CARS + [(0, 1, 1)], [[4, 1], [2]]),
            plan_of(2, CARS, [[4, 1]]),
            plan_of(2, CARS, [[4, 0], [2]]),
            plan_of(2, CARS, [[4, 1], [2], [], [3]]),
        ]
        for other in others:
            self.assertIs(plan == other, False)
            self.assertIs(plan != other, True)
        self.assertIs(Plan(1, []) == Plan(1, []), True)
        self.assertIs(Plan(1, []) == Plan(2, []), False)


if __name__ == "__main__":
    unittest.main()
