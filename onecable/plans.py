"""Plans: which cars of a day are served in which hour, made by somebody who knows all cars."""

from onecable.days import check_day, day_hours
from onecable.errors import BadPlan


class Plan:
    """For each hour of a day the numbers of the cars that are served in it."""

    def __init__(self, width, cars):
        check_day(width, cars)
        self.width = width
        self.cars = tuple([tuple(car) for car in cars])
        self.served = [()] * day_hours(cars)

    def __len__(self):
        return len(self.served)

    def __iter__(self):
        return iter(self.served)

    def __getitem__(self, at):
        self.check_hour(at)
        return self.served[at]

    def __setitem__(self, at, worth):
        self.set_hour(at, worth)

    def __eq__(self, other):
        return (
            isinstance(other, Plan)
            and self.width == other.width
            and self.cars == other.cars
            and self.served == other.served
        )

    def has_hour(self, hour):
        """True if the hour is an hour of the plan."""
        return hour >= 0 and hour < len(self.served)

    def has_car(self, number):
        """True if the number is the number of a car."""
        return number >= 0 and number < len(self.cars)

    def check_hour(self, hour):
        """Raises BadPlan if the hour is not an hour of the plan."""
        if not self.has_hour(hour):
            raise BadPlan("hour")

    def check_car(self, number):
        """Raises BadPlan if the number is not the number of a car."""
        if not self.has_car(number):
            raise BadPlan("car")

    def set_hour(self, hour, numbers):
        """Serves these cars in the hour, and no others."""
        self.check_hour(hour)
        for number in numbers:
            self.check_car(number)
        if len(set(numbers)) < len(numbers):
            raise BadPlan("twice")
        if len(numbers) > self.width:
            raise BadPlan("width")
        for number in numbers:
            if hour not in self.window(number):
                raise BadPlan("stay")
        for number in numbers:
            if self.is_full_without(number, hour):
                raise BadPlan("need")
        self.served[hour] = tuple(sorted(numbers, key=int))

    def is_full_without(self, number, hour):
        """True if the car gets all that it needs in the hours other than this one."""
        _, _, need = self.cars[number]
        return len([other for other in self.hours_of(number) if other != hour]) >= need

    def window(self, number):
        """The ascending list of the hours in which the car is there."""
        self.check_car(number)
        come, stay, _ = self.cars[number]
        return list(range(come, come + stay))

    def hours_of(self, number):
        """The ascending list of the hours in which the car is served."""
        return [hour for hour in self.window(number) if number in self.served[hour]]

    def got(self, number):
        """The number of units that the car gets."""
        return len(self.hours_of(number))

    def lack(self, number):
        """The number of units that the car needs and does not get."""
        got = self.got(number)
        _, _, need = self.cars[number]
        return need - got

    def room(self, hour):
        """The number of cars that can be served in the hour besides those that are."""
        self.check_hour(hour)
        return self.width - len(self.served[hour])

    def total(self):
        """The number of units that all cars get."""
        return sum([len(numbers) for numbers in self.served])

    def clone(self):
        """An equal plan that is independent of this one."""
        twin = Plan(self.width, self.cars)
        twin.served = list(self.served)
        return twin
