"""Serving: one hour passes, and the plan that a rule makes hour by hour."""

from onecable.plans import Plan


def serve_hour(cars, served):
    """The open cars that remain after one hour, and what those that leave are short in all."""
    remaining = []
    short = 0
    for index, (stay, need, left, want) in enumerate(cars):
        wanted = want - 1 if index in served else want
        if wanted > 0 and left > 1:
            remaining.append((stay, need, left - 1, wanted))
        elif wanted > 0:
            short += wanted
    return (tuple(remaining), short)


def rule_hour(cars, rule, width):
    """The same as serve_hour gives, where the rule picks the served cars."""
    return serve_hour(cars, rule.serve(cars, width))


def _coming(plan, hour):
    """The ascending numbers of the cars that come in the hour."""
    return [number for number, (come, _, _) in enumerate(plan.cars) if come == hour]


def _open_car(plan, number, hour):
    """The open car with the number as it is in the hour."""
    come, stay, need = plan.cars[number]
    return (stay, need, come + stay - hour, plan.lack(number))


def _is_open(car):
    """True if the car is still there and still wants units."""
    _, _, left, want = car
    return left > 0 and want > 0


def run_rule(width, cars, rule):
    """The plan that the rule makes, which in each hour knows only the cars that have come so far."""
    plan = Plan(width, cars)
    waiting = []
    for hour in range(len(plan)):
        # Those that came earlier stay in front, so the order is that of the comings.
        there = waiting + _coming(plan, hour)
        waiting = [number for number in there if _is_open(_open_car(plan, number, hour))]
        served = rule.serve([_open_car(plan, number, hour) for number in waiting], width)
        plan.set_hour(hour, [waiting[index] for index in served])
    return plan
