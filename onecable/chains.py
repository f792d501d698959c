"""Exchanges: how a car gets a unit more while other cars change their hours."""

from onecable.errors import BadPlan


def _other_hours(plan, number):
    """The hours of the car's window in which it is not served."""
    return [hour for hour in plan.window(number) if number not in plan[hour]]


def _unmet(numbers, met):
    """Those of the numbers that were not met before."""
    return [number for number in numbers if number not in met]


def _search(plan, numbers):
    """How one comes from the cars to hours in which they could be served, and on to the cars served there.

    Returns two dicts: the car before each hour, and the hour before each car, which is
    None for a car to begin with.
    """
    car_before = {}
    hour_before = {number: None for number in numbers}
    waiting = list(hour_before)
    while len(waiting) > 0:
        # The one met first goes first, which keeps the chains short.
        number = waiting.pop(0)
        hours = _unmet(_other_hours(plan, number), car_before)
        for hour in hours:
            car_before[hour] = number
            others = _unmet(plan[hour], hour_before)
            for other in others:
                hour_before[other] = hour
                waiting.append(other)
    return (car_before, hour_before)


def reached(plan, numbers):
    """The hours and the cars, two ascending lists, to which exchanges lead from the cars."""
    for number in numbers:
        plan.check_car(number)
    hours, cars = _search(plan, numbers)
    return (sorted(hours, key=int), sorted(cars, key=int))


def _are_different(numbers):
    """True if no number occurs twice."""
    return len(set(numbers)) == len(numbers)


def _can_take(plan, number, hour):
    """True if there is such a car and the hour is one of its window in which it is not served."""
    return plan.has_car(number) and hour in _other_hours(plan, number)


def _is_chain(plan, chain):
    """True if the list of pairs (number, hour) is a chain of the plan."""
    numbers = [number for number, _ in chain]
    hours = [hour for _, hour in chain]
    if len(chain) == 0 or not _are_different(numbers) or not _are_different(hours):
        return False
    if not all([_can_take(plan, number, hour) for number, hour in chain]):
        return False
    if not all([number in plan[hour] for number, hour in zip(numbers[1:], hours)]):
        return False
    return plan.lack(numbers[0]) > 0 and plan.room(hours[-1]) > 0


def follow(plan, chain):
    """A new plan, in which each car of the chain has moved to its hour."""
    if not _is_chain(plan, chain):
        raise BadPlan("chain")
    moved = plan.clone()
    leaving = [number for number, _ in chain[1:]] + [None]
    # From the first pair on: so each car has left its old hour before it takes the new one.
    for (number, hour), leaver in zip(chain, leaving):
        staying = [other for other in moved[hour] if other != leaver]
        moved.set_hour(hour, staying + [number])
    return moved


def _way_to(last, car_before, hour_before):
    """The chain that ends with the hour."""
    chain = []
    hour = last
    while hour is not None:
        number = car_before[hour]
        chain.append((number, hour))
        hour = hour_before[number]
    return chain[::-1]


def find_chain(plan, number):
    """A chain whose first car is this one, or None if there is none."""
    if plan.lack(number) == 0:
        return None
    car_before, hour_before = _search(plan, [number])
    for hour in car_before:
        if plan.room(hour) > 0:
            return _way_to(hour, car_before, hour_before)
    return None
