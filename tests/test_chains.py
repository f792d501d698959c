"""Points 22 and 23 and the interface of onecable/chains.py."""

import unittest

from onecable.chains import find_chain, follow, reached
from onecable.errors import BadPlan, CableError
from onecable.plans import Plan
from tests.draws import Draws


def plan_of(width, cars, hours):
    plan = Plan(width, cars)
    for hour, numbers in enumerate(hours):
        plan.set_hour(hour, numbers)
    return plan


def window(car):
    come, stay, _ = car
    return range(come, come + stay)


def drawn_plan(draws, many, last, longest):
    """A plan of a small day in which some units are given at random."""
    cars = draws.cars(draws.number(1, many), last, longest)
    plan = Plan(draws.number(1, 2), cars)
    for _ in range(draws.number(0, 12)):
        hour = draws.number(0, len(plan) - 1)
        number = draws.number(0, len(cars) - 1)
        if number not in plan[hour] and hour in window(cars[number]) and plan.room(hour) and plan.lack(number):
            plan[hour] = plan[hour] + (number,)
    return plan


def subsets(many):
    return [[thing for thing in range(many) if bits >> thing & 1] for bits in range(2 ** many)]


def least_sets(plan, numbers):
    """The least sets of hours and cars that hold what point 22 asks for, among all sets there are."""
    right = []
    for cars in subsets(len(plan.cars)):
        for hours in subsets(len(plan)):
            if all(number in cars for number in numbers) \
                    and all(hour in hours for number in cars for hour in window(plan.cars[number])
                            if number not in plan[hour]) \
                    and all(number in cars for hour in hours for number in plan[hour]):
                right.append((hours, cars))
    common = tuple(sorted(set.intersection(*[set(pair[at]) for pair in right])) for at in (0, 1))
    assert common in right
    return common


def all_chains(plan, number):
    """All chains of the plan whose first car is the one given, by trying all ways from hour to hour."""
    chains = []

    def go_on(chain, car):
        for hour in window(plan.cars[car]):
            if car in plan[hour] or any(hour == other for _, other in chain):
                continue
            longer = chain + [(car, hour)]
            if len(plan[hour]) < plan.width:
                chains.append(longer)
            for other in plan[hour]:
                if all(other != met for met, _ in longer):
                    go_on(longer, other)

    if sum(number in served for served in plan) < plan.cars[number][2]:
        go_on([], number)
    return chains


def moved(plan, chain):
    """The hours of the plan after the chain, in the words of point 23."""
    hours = [set(numbers) for numbers in plan]
    for number, hour in chain:
        hours[hour].add(number)
    for (number, _), (_, hour) in zip(chain[1:], chain):
        hours[hour].remove(number)
    return [tuple(sorted(numbers)) for numbers in hours]


class ChainTest(unittest.TestCase):
    def refuses(self, part, call, *arguments):
        with self.assertRaises(BadPlan) as caught:
            call(*arguments)
        self.assertEqual(caught.exception.part, part)
        self.assertIsInstance(caught.exception, CableError)


class Reached(ChainTest):
    # Car 0 could take hour 1, in which car 1 is served, which could take hour 2; nobody is led to car 3.
    PLAN = plan_of(1, [(0, 2, 1), (1, 2, 1), (2, 1, 1), (4, 2, 1)], [[0], [1], [2], [], [3]])

    def test_interface(self):
        for function in (reached, find_chain, follow):
            self.assertEqual(function.__module__, "onecable.chains")

    def test_no_numbers(self):
        self.assertEqual(reached(self.PLAN, []), ([], []))
        self.assertEqual(reached(Plan(1, []), []), ([], []))

    def test_plain_examples(self):
        self.assertEqual(reached(self.PLAN, [0]), ([1, 2], [0, 1, 2]))
        self.assertEqual(reached(self.PLAN, [1]), ([2], [1, 2]))
        self.assertEqual(reached(self.PLAN, [2]), ([], [2]))
        self.assertEqual(reached(plan=self.PLAN, numbers=[3]), ([5], [3]))
        self.assertEqual(reached(self.PLAN, [3, 1]), ([2, 5], [1, 2, 3]))

    def test_repeated_numbers(self):
        self.assertEqual(reached(self.PLAN, [3, 0, 3, 0, 0]), ([1, 2, 5], [0, 1, 2, 3]))

    def test_a_pair_of_lists(self):
        pair = reached(self.PLAN, [0])
        self.assertEqual([type(pair), type(pair[0]), type(pair[1])], [tuple, list, list])
        pair[0].clear()
        pair[1].append(9)
        self.assertEqual(reached(self.PLAN, [0]), ([1, 2], [0, 1, 2]))

    def test_wrong_numbers(self):
        for number in (-1, 4, -4, 60, 10 ** 20):
            self.refuses("car", reached, self.PLAN, [number])
            self.refuses("car", reached, self.PLAN, [0, 1, number])
        self.refuses("car", reached, Plan(1, []), [0])

    def test_arguments_stay_as_they_are(self):
        numbers = [3, 0, 3]
        before = self.PLAN.clone()
        reached(self.PLAN, numbers)
        self.assertEqual(numbers, [3, 0, 3])
        self.assertEqual(self.PLAN, before)

    def test_against_all_sets(self):
        draws = Draws(22)
        for _ in range(120):
            plan = drawn_plan(draws, 4, 2, 3)
            many = len(plan.cars)
            numbers = [draws.number(0, many - 1) for _ in range(draws.number(0, 3))]
            self.assertEqual(reached(plan, numbers), least_sets(plan, numbers))

    def test_many_cars_in_ascending_order(self):
        cars = [(0, 12, 1)] * 60
        plan = Plan(12, cars)
        plan[3] = [58, 10, 9, 2]
        plan[11] = [11, 0]
        self.assertEqual(reached(plan, [58, 10]), (list(range(12)), [0, 2, 9, 10, 11, 58]))


class Following(ChainTest):
    CARS = [(0, 2, 1), (0, 3, 2), (1, 3, 1), (2, 2, 2)]

    def setUp(self):
        # Car 0 and car 3 lack a unit; hour 3 has room.
        self.plan = plan_of(1, self.CARS, [[1], [1], [2]])

    def test_one_pair(self):
        new = follow(self.plan, [(3, 3)])
        self.assertIsInstance(new, Plan)
        self.assertEqual(list(new), [(1,), (1,), (2,), (3,)])

    def test_two_pairs(self):
        new = follow(self.plan, [(3, 2), (2, 3)])
        self.assertEqual(list(new), [(1,), (1,), (3,), (2,)])

    def test_three_pairs(self):
        new = follow(plan=self.plan, chain=[(0, 1), (1, 2), (2, 3)])
        self.assertEqual(list(new), [(1,), (0,), (1,), (2,)])
        self.assertEqual([new.got(number) for number in range(4)], [1, 2, 1, 0])

    def test_the_old_plan_is_unchanged(self):
        before = self.plan.clone()
        chain = [(0, 1), (1, 2), (2, 3)]
        new = follow(self.plan, chain)
        self.assertEqual(self.plan, before)
        self.assertEqual(chain, [(0, 1), (1, 2), (2, 3)])
        new[3] = []
        self.assertEqual(self.plan, before)
        self.plan[3] = [3]
        self.assertEqual(list(new), [(1,), (0,), (1,), ()])

    def test_hours_with_room_on_the_way(self):
        plan = plan_of(2, self.CARS, [[1], [1], [2]])
        self.assertEqual(list(follow(plan, [(0, 1), (1, 2), (2, 3)])), [(1,), (0,), (1,), (2,)])
        self.assertEqual(list(follow(plan, [(0, 1)])), [(1,), (0, 1), (2,), ()])

    def test_several_cars_in_an_hour(self):
        plan = plan_of(2, [(0, 1, 1), (0, 2, 1), (0, 2, 1), (0, 2, 2)], [[1, 2], [3]])
        self.assertEqual(list(follow(plan, [(0, 0), (2, 1)])), [(0, 1), (2, 3)])
        self.assertEqual(list(follow(plan, [(0, 0), (1, 1)])), [(0, 2), (1, 3)])

    def refuses_chain(self, chain, plan=None):
        plan = plan or self.plan
        before = plan.clone()
        given = list(chain)
        self.refuses("chain", follow, plan, given)
        self.assertEqual(plan, before)
        self.assertEqual(given, list(chain))

    def test_empty(self):
        self.refuses_chain([])
        self.refuses("chain", follow, Plan(1, []), [])

    def test_a_car_twice(self):
        # Each pair is right in itself: car 0 comes back at the end.
        plan = plan_of(1, [(0, 3, 2), (0, 2, 1)], [[1], [0]])
        self.refuses_chain([(0, 0), (1, 1), (0, 2)], plan)
        self.assertEqual(list(follow(plan, [(0, 2)])), [(1,), (0,), (0,)])
        self.refuses_chain([(0, 0), (0, 2)], plan)
        self.refuses_chain([(0, 2), (0, 2)], plan)

    def test_an_hour_twice(self):
        # Each pair is right in itself, and the last hour would have room: hour 0 is taken twice.
        plan = plan_of(3, [(0, 1, 1), (0, 2, 1), (0, 2, 1)], [[1], [2]])
        self.assertEqual(list(follow(plan, [(0, 0), (1, 1)])), [(0,), (1, 2)])
        self.refuses_chain([(0, 0), (1, 1), (2, 0)], plan)

    def test_a_first_car_that_lacks_nothing(self):
        self.refuses_chain([(2, 3)])
        self.refuses_chain([(1, 2), (2, 3)])

    def test_an_hour_outside_of_the_window(self):
        self.refuses_chain([(0, 3)])
        self.refuses_chain([(0, 2), (2, 3)])
        self.refuses_chain([(0, 1), (1, 3)])
        self.refuses_chain([(3, 1), (1, 2), (2, 3)])

    def test_an_hour_in_which_the_car_is_served_already(self):
        plan = plan_of(2, self.CARS, [[1], [1], [2, 3]])
        self.refuses_chain([(3, 2)], plan)
        self.refuses_chain([(3, 2), (2, 3)], plan)
        self.refuses_chain([(0, 0), (1, 1)], plan)

    def test_a_later_car_that_is_not_served_in_the_hour_before(self):
        self.refuses_chain([(0, 0), (2, 3)])
        self.refuses_chain([(0, 1), (1, 2), (3, 3)])
        self.refuses_chain([(3, 3), (2, 3)])
        plan = plan_of(2, self.CARS, [[1], [1], [2]])
        self.refuses_chain([(0, 1), (2, 3)], plan)

    def test_a_last_hour_without_room(self):
        self.refuses_chain([(0, 0)])
        self.refuses_chain([(0, 1), (1, 2)])
        self.refuses_chain([(3, 2)])

    def test_a_number_or_an_hour_that_does_not_exist(self):
        for number in (-1, 4, -3, 10 ** 20):
            self.refuses_chain([(number, 3)])
            self.refuses_chain([(3, 2), (number, 3)])
        for hour in (-1, 4, -2, 10 ** 20):
            self.refuses_chain([(3, hour)])
            self.refuses_chain([(3, 2), (2, hour)])
        self.refuses("chain", follow, Plan(1, []), [(0, 0)])

    def test_all_chains_of_small_days(self):
        draws = Draws(23)
        followed = 0
        for _ in range(150):
            plan = drawn_plan(draws, 5, 3, 3)
            for number in range(len(plan.cars)):
                for chain in all_chains(plan, number):
                    new = follow(plan, chain)
                    self.assertEqual(list(new), moved(plan, chain))
                    self.assertEqual((new.width, new.cars), (plan.width, plan.cars))
                    followed += 1
        self.assertGreater(followed, 300)

    def test_drawn_lists(self):
        draws = Draws(230)
        right = 0
        for _ in range(6000):
            plan = drawn_plan(draws, 3, 1, 3)
            chain = [(draws.number(-1, len(plan.cars)), draws.number(-1, len(plan))) for _ in range(draws.number(0, 3))]
            known = chain != [] and 0 <= chain[0][0] < len(plan.cars) and chain in all_chains(plan, chain[0][0])
            if known:
                right += 1
                self.assertEqual(list(follow(plan, chain)), moved(plan, chain))
            else:
                self.refuses_chain(chain, plan)
        self.assertGreater(right, 50)


class Finding(ChainTest):
    def test_none_for_a_car_that_lacks_nothing(self):
        plan = plan_of(2, [(0, 2, 1), (0, 2, 1)], [[0]])
        self.assertIsNone(find_chain(plan, 0))
        self.assertIsNotNone(find_chain(plan, 1))

    def test_none_without_room(self):
        plan = plan_of(1, [(0, 2, 1), (0, 2, 2), (3, 1, 1)], [[1], [1]])
        self.assertIsNone(find_chain(plan, 0))
        self.assertEqual(find_chain(plan=plan, number=2), [(2, 3)])

    def test_the_only_chain(self):
        plan = plan_of(1, [(0, 1, 1), (0, 2, 1), (1, 2, 1), (2, 2, 1)], [[1], [2], [3]])
        self.assertEqual(find_chain(plan, 0), [(0, 0), (1, 1), (2, 2), (3, 3)])
        self.assertIs(type(find_chain(plan, 0)), list)

    def test_a_long_chain(self):
        cars = [(0, 1, 1)] + [(hour, 2, 1) for hour in range(59)]
        plan = plan_of(1, cars, [[hour + 1] for hour in range(59)])
        chain = find_chain(plan, 0)
        self.assertEqual(chain, [(number, number) for number in range(60)])
        self.assertEqual(follow(plan, chain).total(), 60)

    def test_wrong_numbers(self):
        plan = Plan(1, [(0, 1, 1)])
        for number in (-1, 1, 60, 10 ** 20):
            self.refuses("car", find_chain, plan, number)
        self.refuses("car", find_chain, Plan(1, []), 0)

    def test_the_plan_is_unchanged(self):
        plan = plan_of(1, [(0, 1, 1), (0, 2, 1)], [[1]])
        before = plan.clone()
        find_chain(plan, 0).clear()
        self.assertEqual(plan, before)
        self.assertEqual(find_chain(plan, 0), [(0, 0), (1, 1)])

    def test_against_all_chains(self):
        draws = Draws(231)
        found = []
        for _ in range(300):
            plan = drawn_plan(draws, 5, 3, 3)
            for number in range(len(plan.cars)):
                chain = find_chain(plan, number)
                chains = all_chains(plan, number)
                found.append(chain)
                if chain is None:
                    self.assertEqual(chains, [])
                    self.check_without_chain(plan, number)
                else:
                    self.assertIn(chain, chains)
                    self.check_followed(plan, chain)
        self.assertGreater(len([chain for chain in found if chain is not None and len(chain) > 1]), 20)
        self.assertGreater(found.count(None), 20)

    def check_followed(self, plan, chain):
        new = follow(plan, chain)
        self.assertEqual(list(new), moved(plan, chain))
        more = [new.got(number) - plan.got(number) for number in range(len(plan.cars))]
        self.assertEqual(more, [int(number == chain[0][0]) for number in range(len(plan.cars))])

    def check_without_chain(self, plan, number):
        if plan.lack(number) > 0:
            hours, _ = reached(plan, [number])
            self.assertEqual([plan.room(hour) for hour in hours], [0] * len(hours))


if __name__ == "__main__":
    unittest.main()
