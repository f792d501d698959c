"""Days: a width and a list of cars (come, stay, need), which are numbered by their indexes."""

from onecable.errors import BadDay

MOST_WIDTH = 12

MOST_CARS = 60

LAST_COMING = 60

MOST_STAY = 12


def _is_right(car):
    """True if the numbers of the car keep their limits."""
    come, stay, need = car
    if come < 0 or come > LAST_COMING or stay < 1 or stay > MOST_STAY:
        return False
    return need >= 1 and need <= stay


def check_day(width, cars):
    """Raises BadDay if the day is wrong."""
    if width < 1 or width > MOST_WIDTH:
        raise BadDay(-1)
    for number, car in enumerate(cars):
        if number == MOST_CARS or not _is_right(car):
            raise BadDay(number)


def day_hours(cars):
    """The hour from which on no car is there any more."""
    # int: where a class has an order, as Row does, max takes only plain numbers.
    return max([int(come + stay) for come, stay, _ in cars], default=0)


def _car_demand(car, hours):
    """The number of units that the car must take in the hours."""
    come, stay, need = car
    inside = len([hour for hour in hours if hour >= come and hour < come + stay])
    return max(0, need - (stay - inside))


def demand(cars, hours):
    """The number of units that the cars must take in the hours, if all of them get what they need."""
    return sum([_car_demand(car, hours) for car in cars])
