"""Point 24 and the interface of onecable/best.py."""

import unittest
from itertools import combinations

from onecable.best import best_plan, cut, gain, improved, is_best, missed
from onecable.chains import reached
from onecable.errors import BadDay, BadPlan, CableError
from onecable.plans import Plan
from onecable.rules import Rule
from onecable.serving import run_rule
from tests.draws import Draws


def plan_of(width, cars, hours):
    plan = Plan(width, cars)
    for hour, numbers in enumerate(hours):
        plan.set_hour(hour, numbers)
    return plan


def units(plan):
    return tuple(plan.got(number) for number in range(len(plan.cars)))


def all_units(width, cars):
    """What the cars can get, a tuple of numbers of units, over all plans of the day."""
    found = {(0,) * len(cars)}
    for hour in range(max([come + stay for come, stay, _ in cars], default=0)):
        after = set()
        for got in found:
            there = [number for number, (come, stay, need) in enumerate(cars)
                     if come <= hour < come + stay and got[number] < need]
            for many in range(min(width, len(there)) + 1):
                for served in combinations(there, many):
                    after.add(tuple(one + (number in served) for number, one in enumerate(got)))
        found = after
    return found


def gain_among(all_got, got, number):
    """The gain in the words of point 24."""
    return max(other[number] - got[number] for other in all_got
               if other[:number] + other[number + 1:] == got[:number] + got[number + 1:])


def window(car):
    come, stay, _ = car
    return range(come, come + stay)


def sum_of_cut(width, cars, hours, numbers):
    """The sum of the three numbers of point 24."""
    outside = sum(1 for number in numbers for hour in window(cars[number]) if hour not in hours)
    others = sum(need for number, (_, _, need) in enumerate(cars) if number not in numbers)
    return width * len(hours) + outside + others


def gets_one_more(car, cars, width, served, tried):
    come, stay, _ = cars[car]
    for hour in range(come, come + stay):
        if hour in tried or car in served[hour]:
            continue
        tried.add(hour)
        if len(served[hour]) < width:
            served[hour].add(car)
            return True
        for other in sorted(served[hour]):
            if gets_one_more(other, cars, width, served, tried):
                served[hour].remove(other)
                served[hour].add(car)
                return True
    return False


def most_units(width, cars):
    """The greatest total, by a matching of units and hours."""
    served = {hour: set() for car in cars for hour in window(car)}
    return sum(gets_one_more(car, cars, width, served, set())
               for car, (_, _, need) in enumerate(cars) for _ in range(need))


def drawn_plan(draws, many, last, longest):
    """A plan of a small day in which some units are given at random."""
    cars = draws.cars(draws.number(1, many), last, longest)
    plan = Plan(draws.number(1, 2), cars)
    for _ in range(draws.number(0, 12)):
        hour = draws.number(0, len(plan) - 1)
        number = draws.number(0, len(cars) - 1)
        if number not in plan[hour] and hour in window(cars[number]) and plan.room(hour) and plan.lack(number):
            plan[hour] = plan[hour] + (number,)
    return plan


def drawn_plans(seed, many):
    draws = Draws(seed)
    return [drawn_plan(draws, 4, 3, 4) for _ in range(many)]


class BestTest(unittest.TestCase):
    # Car 0 could get 3 units more: the hours 2 and 3 are free, and car 1 can go from hour 1 to hour 4.
    SEVERAL = plan_of(1, [(0, 4, 4), (1, 4, 1)], [[0], [1], [], [], []])
    # Car 0 takes hour 0 from car 1, this one hour 1 from car 2, and this one hour 2 from car 3, which goes to hour 3.
    LONG = plan_of(1, [(0, 1, 1), (0, 2, 1), (1, 2, 1), (2, 2, 1)], [[1], [2], [3], []])

    def refuses(self, part, call, *arguments):
        with self.assertRaises(BadPlan) as caught:
            call(*arguments)
        self.assertEqual(caught.exception.part, part)
        self.assertIsInstance(caught.exception, CableError)

    def assertPlan(self, plan):
        """The plan keeps what point 19 asks of each plan."""
        self.assertIs(type(plan), Plan)
        fresh = Plan(plan.width, plan.cars)
        for hour, numbers in enumerate(plan):
            fresh.set_hour(hour, numbers)
        self.assertEqual(fresh, plan)


class Interface(BestTest):
    def test_defined_here(self):
        for function in (gain, improved, missed, best_plan, is_best, cut):
            self.assertEqual(function.__module__, "onecable.best")

    def test_keywords(self):
        plan = self.LONG
        self.assertEqual(gain(plan=plan, number=0), 1)
        self.assertEqual(improved(plan=plan, number=0).got(0), 1)
        self.assertEqual(missed(plan=plan), [(0, 1)])
        self.assertEqual(best_plan(width=1, cars=[(0, 1, 1)]).total(), 1)
        self.assertIs(is_best(plan=plan), False)
        self.assertEqual(cut(plan=plan), ([0, 1, 2, 3], [0, 1, 2, 3]))


class Gain(BestTest):
    def test_several_units(self):
        self.assertEqual(gain(self.SEVERAL, 0), 3)
        self.assertEqual(gain(self.SEVERAL, 1), 0)

    def test_a_chain_of_several_cars(self):
        self.assertEqual(gain(self.LONG, 0), 1)
        better = improved(self.LONG, 0)
        self.assertEqual(list(better), [(0,), (1,), (2,), (3,)])

    def test_a_car_that_lacks_nothing(self):
        plan = plan_of(2, [(0, 3, 1)], [[0], [], []])
        self.assertEqual(gain(plan, 0), 0)
        same = improved(plan, 0)
        self.assertEqual(same, plan)
        self.assertIsNot(same, plan)

    def test_a_car_that_lacks_and_has_no_gain(self):
        plan = plan_of(1, [(0, 1, 1), (0, 1, 1)], [[0]])
        self.assertEqual([gain(plan, 0), gain(plan, 1)], [0, 0])
        same = improved(plan, 1)
        self.assertEqual(same, plan)
        self.assertIsNot(same, plan)

    def test_stops_at_the_need(self):
        self.assertEqual(gain(Plan(3, [(0, 12, 5)]), 0), 5)
        self.assertEqual(gain(Plan(3, [(60, 12, 12)]), 0), 12)

    def test_wrong_number(self):
        for number in (-1, 2, 60, 10 ** 12):
            self.refuses("car", gain, self.SEVERAL, number)
            self.refuses("car", improved, self.SEVERAL, number)
        self.refuses("car", gain, Plan(1, []), 0)
        self.refuses("car", improved, Plan(1, []), 0)

    def test_the_plan_stays_and_the_new_one_is_independent(self):
        for plan in (self.SEVERAL, self.LONG):
            before = plan.clone()
            better = improved(plan, 0)
            gain(plan, 0)
            missed(plan)
            self.assertEqual(plan, before)
            for hour in range(len(better)):
                better[hour] = []
            self.assertEqual(plan, before)

    def test_against_all_plans(self):
        gains = []
        for plan in drawn_plans(24, 250):
            all_got = all_units(plan.width, plan.cars)
            got = units(plan)
            for number in range(len(plan.cars)):
                best = gain_among(all_got, got, number)
                self.assertEqual(gain(plan, number), best)
                better = improved(plan, number)
                self.assertPlan(better)
                self.assertEqual(units(better), got[:number] + (got[number] + best,) + got[number + 1:])
                gains.append(best)
        self.assertTrue(all(gains.count(best) > 10 for best in (0, 1, 2)))


class Missed(BestTest):
    def test_examples(self):
        self.assertEqual(missed(self.SEVERAL), [(0, 3)])
        self.assertEqual(missed(Plan(2, [(0, 2, 1), (0, 3, 3), (5, 1, 1)])), [(0, 1), (1, 3), (2, 1)])
        self.assertEqual(missed(Plan(1, [])), [])
        self.assertEqual(missed(best_plan(1, [(0, 2, 2), (0, 2, 2)])), [])

    def test_new_lists_of_pairs(self):
        found = missed(self.SEVERAL)
        self.assertEqual([type(found), type(found[0])], [list, tuple])
        found.clear()
        self.assertEqual(missed(self.SEVERAL), [(0, 3)])

    def test_against_all_plans(self):
        for plan in drawn_plans(25, 100):
            all_got = all_units(plan.width, plan.cars)
            gains = [(number, gain_among(all_got, units(plan), number)) for number in range(len(plan.cars))]
            self.assertEqual(missed(plan), [pair for pair in gains if pair[1] > 0])


class BestPlan(BestTest):
    def test_empty_day(self):
        plan = best_plan(3, [])
        self.assertEqual([len(plan), plan.total(), plan.width, plan.cars], [0, 0, 3, ()])

    def test_against_all_plans(self):
        draws = Draws(26)
        for _ in range(250):
            cars = draws.cars(draws.number(0, 5), 3, 4)
            width = draws.number(1, 3)
            plan = best_plan(width, cars)
            self.assertPlan(plan)
            self.assertEqual((plan.width, plan.cars), (width, tuple(cars)))
            self.assertEqual(plan.total(), max(sum(got) for got in all_units(width, cars)))

    def test_sixty_cars(self):
        draws = Draws(27)
        for width, last in ((1, 60), (2, 60), (4, 40), (12, 8)):
            cars = draws.cars(60, last, 12)
            plan = best_plan(width, cars)
            self.assertPlan(plan)
            self.assertEqual(plan.total(), most_units(width, cars))
            self.assertIs(is_best(plan), True)
            self.assertEqual(missed(plan), [])

    def test_sixty_equal_cars(self):
        plan = best_plan(12, [(60, 12, 12)] * 60)
        self.assertEqual(plan.total(), 144)
        self.assertIs(is_best(plan), True)

    def test_wrong_days(self):
        for place, width, cars in ((-1, 0, []), (-1, 13, [(0, 0, 0)]), (0, 1, [(61, 1, 1)]), (1, 1, [(0, 1, 1)] * 1 +
                                   [(0, 13, 1)]), (0, 1, [(0, 2, 3)]), (60, 12, [(0, 1, 1)] * 61)):
            with self.assertRaises(BadDay) as caught:
                best_plan(width, cars)
            self.assertEqual(caught.exception.place, place)

    def test_the_list_of_cars_is_copied(self):
        cars = [(0, 2, 1), (0, 1, 1)]
        plan = best_plan(1, cars)
        self.assertEqual(cars, [(0, 2, 1), (0, 1, 1)])
        cars.clear()
        self.assertEqual((plan.cars, plan.total()), (((0, 2, 1), (0, 1, 1)), 2))

    def test_each_call_makes_a_new_plan(self):
        first = best_plan(1, [(0, 1, 1)])
        first[0] = []
        self.assertEqual(list(best_plan(1, [(0, 1, 1)])), [(0,)])


class IsBest(BestTest):
    def test_examples(self):
        self.assertIs(is_best(self.SEVERAL), False)
        self.assertIs(is_best(improved(self.SEVERAL, 0)), True)
        self.assertIs(is_best(self.LONG), False)
        self.assertIs(is_best(improved(self.LONG, 0)), True)

    def test_empty_day(self):
        self.assertIs(is_best(Plan(1, [])), True)

    def test_best_though_cars_lack(self):
        self.assertIs(is_best(plan_of(1, [(0, 1, 1), (0, 1, 1)], [[1]])), True)

    def test_one_unit_less(self):
        draws = Draws(28)
        for _ in range(40):
            plan = best_plan(draws.number(1, 3), draws.cars(draws.number(1, 8), 5, 5))
            self.assertIs(is_best(plan), True)
            hour = draws.one_of([hour for hour in range(len(plan)) if plan[hour]])
            plan[hour] = plan[hour][1:]
            self.assertIs(is_best(plan), False)

    def test_against_all_plans(self):
        answers = []
        for plan in drawn_plans(29, 200):
            best = plan.total() == max(sum(got) for got in all_units(plan.width, plan.cars))
            self.assertIs(is_best(plan), best)
            self.assertIs(missed(plan) == [], best)
            answers.append(best)
        self.assertEqual(set(answers), {True, False})


class Cut(BestTest):
    def test_reached_from_all_that_lack(self):
        for plan in drawn_plans(30, 100):
            lacking = [number for number in range(len(plan.cars)) if plan.lack(number) > 0]
            self.assertEqual(cut(plan), reached(plan, lacking))

    def test_nobody_lacks(self):
        self.assertEqual(cut(plan_of(1, [(0, 2, 1)], [[0], []])), ([], []))
        self.assertEqual(cut(Plan(1, [])), ([], []))

    def test_an_example(self):
        # Three cars in two hours: one of them lacks, and hour 3 with car 3 has nothing to do with it.
        plan = plan_of(1, [(0, 2, 1), (0, 2, 1), (0, 2, 1), (3, 1, 1)], [[0], [1], [], [3]])
        self.assertEqual(cut(plan), ([0, 1], [0, 1, 2]))
        self.assertEqual(sum_of_cut(1, plan.cars, [0, 1], [0, 1, 2]), plan.total())

    def test_the_sum_is_the_total_of_a_best_plan(self):
        draws = Draws(31)
        days = [(draws.number(1, 3), draws.cars(draws.number(0, 9), 5, 6)) for _ in range(100)]
        days += [(draws.number(1, 5), draws.cars(60, 60, 12)) for _ in range(3)]
        for width, cars in days:
            plan = best_plan(width, cars)
            hours, numbers = cut(plan)
            self.assertEqual(sum_of_cut(width, cars, hours, numbers), plan.total())

    def test_no_plan_has_more_than_any_sum(self):
        draws = Draws(32)
        for _ in range(25):
            width = draws.number(1, 2)
            cars = draws.cars(draws.number(1, 4), 2, 3)
            plan = best_plan(width, cars)
            sums = [sum_of_cut(width, cars, hours, numbers)
                    for many in range(len(plan) + 1) for hours in combinations(range(len(plan)), many)
                    for some in range(len(cars) + 1) for numbers in combinations(range(len(cars)), some)]
            self.assertEqual(min(sums), plan.total())

    def test_a_bound_for_other_plans(self):
        lower = 0
        for plan in drawn_plans(33, 150):
            hours, numbers = cut(plan)
            most = max(sum(got) for got in all_units(plan.width, plan.cars))
            self.assertGreaterEqual(sum_of_cut(plan.width, plan.cars, hours, numbers), most)
            lower += plan.total() < most
        self.assertGreater(lower, 10)

    def test_new_lists(self):
        plan = self.LONG
        hours, numbers = cut(plan)
        self.assertEqual([type(hours), type(numbers)], [list, list])
        hours.clear()
        numbers.clear()
        self.assertEqual(cut(plan), ([0, 1, 2, 3], [0, 1, 2, 3]))


class Facts(BestTest):
    def test_first_leave_is_best_with_the_width_1(self):
        draws = Draws(34)
        for _ in range(60):
            cars = draws.cars(draws.number(0, 12), 8, 6)
            plan = run_rule(1, cars, Rule.named("first leave"))
            self.assertIs(is_best(plan), True)
            self.assertEqual(plan.total(), best_plan(1, cars).total())


if __name__ == "__main__":
    unittest.main()
