"""Best plans: what the cars of a plan can still gain, and where all plans end."""

from onecable.chains import find_chain, follow, reached
from onecable.plans import Plan


def improved(plan, number):
    """A new plan that gives the car all that it can get while every other car keeps its number of units."""
    better = plan.clone()
    chain = find_chain(better, number)
    while chain is not None:
        better = follow(better, chain)
        chain = find_chain(better, number)
    return better


def gain(plan, number):
    """The greatest number of units that the car can get more while every other car keeps its number."""
    return improved(plan, number).got(number) - plan.got(number)


def missed(plan):
    """A pair (number, gain) for each car that has a gain, by ascending number."""
    gains = [(number, gain(plan, number)) for number in range(len(plan.cars))]
    return [(number, units) for number, units in gains if units > 0]


def best_plan(width, cars):
    """A plan with the greatest total."""
    plan = Plan(width, cars)
    # Once is enough for each car: one that has no chain gets none by the chains of the others.
    for number in range(len(plan.cars)):
        plan = improved(plan, number)
    return plan


def is_best(plan):
    """True if no plan of the day has a greater total."""
    return all([find_chain(plan, number) is None for number in range(len(plan.cars))])


def cut(plan):
    """The hours and the cars to which exchanges lead from the cars that lack units."""
    return reached(plan, [number for number in range(len(plan.cars)) if plan.lack(number) > 0])
