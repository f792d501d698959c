"""Moments: all that a desk holds at one time."""

from onecable.claims import Claims
from onecable.errors import Overloaded
from onecable.rules import Rule


class Moment:
    """The cars admitted so far, the hours passed so far and the rule.

    Nothing changes a moment that is made: a deed makes another one, so that a desk takes a deed
    back by going back to the moment before it.
    """

    def __init__(self, yard, picker):
        self.yard = yard
        self.picker = picker
        self.now = 0
        # A tuple (come, stay, need, units got) for each car.
        self.cars = ()
        # A tuple (hour, numbers of the served cars, numbers of the cars that left short) for each hour.
        self.passed = ()
        self.claimed = Claims.none(yard.span)
        # For each hour passed the claims before it was served.
        self.claimed_before = ()

    def clone(self):
        """An equal moment that is independent of this one."""
        twin = Moment(self.yard, self.picker)
        twin.now = self.now
        twin.cars = self.cars
        twin.passed = self.passed
        twin.claimed = self.claimed
        twin.claimed_before = self.claimed_before
        return twin

    def with_rule(self, text):
        """The moment in which the rule of the text is the rule."""
        after = self.clone()
        after.picker = Rule.parse(text)
        return after

    def with_car(self, name):
        """The moment in which a car of the kind has come."""
        kind = self.yard.kind(name)
        claimed = self.claimed + Claims.of(self.yard.span, [kind.car()])
        mask = claimed.over(self.yard.width)
        if mask is not None:
            raise Overloaded(self.hours_over(mask))
        after = self.clone()
        after.claimed = claimed
        after.cars = self.cars + ((self.now, kind.stay, kind.need, 0),)
        return after

    def hours_over(self, mask):
        """The coming hours of the mask, and the passed hours by which so much is claimed in them."""
        hours = [self.now + hour for hour in range(self.yard.span) if (mask >> hour) & 1 == 1]
        for hour in reversed(range(self.now)):
            before = self.claimed_before[hour]
            # Backwards over the same choice by which the claims were made: see Claims and its >>.
            mask = 2 * mask % len(before)
            if before[mask + 1] - self.yard.width > before[mask]:
                mask += 1
                hours.append(hour)
        return tuple(sorted(hours, key=int))

    def hours_left(self, number):
        """The number of hours that the car still stays, 0 or less if it left."""
        come, stay, _, _ = self.cars[number]
        return come + stay - self.now

    def units_wanted(self, number):
        """The number of units that the car needs and did not get so far."""
        _, _, need, got = self.cars[number]
        return need - got

    def wanting(self):
        """The ascending numbers of the cars that did not get all that they need."""
        return [number for number in range(len(self.cars)) if self.units_wanted(number) > 0]

    def waiting(self):
        """The ascending numbers of the open cars."""
        return [number for number in self.wanting() if self.hours_left(number) > 0]

    def left_short(self):
        """The ascending numbers of the cars that left short."""
        return [number for number in self.wanting() if self.hours_left(number) <= 0]

    def shortage_so_far(self):
        """The units that the cars which left were short."""
        return sum([self.units_wanted(number) for number in self.left_short()])

    def open_car(self, number):
        """The open car with the number."""
        _, stay, need, _ = self.cars[number]
        return (stay, need, self.hours_left(number), self.units_wanted(number))

    def served_next(self):
        """The ascending numbers of the cars that the rule serves in the present hour."""
        waiting = self.waiting()
        served = self.picker.serve([self.open_car(number) for number in waiting], self.yard.width)
        return tuple([waiting[index] for index in served])

    def next_hour(self):
        """The moment one hour later."""
        served = self.served_next()
        after = self.clone()
        after.now = self.now + 1
        after.cars = tuple([
            (come, stay, need, got + 1 if number in served else got)
            for number, (come, stay, need, got) in enumerate(self.cars)
        ])
        leaving = tuple([number for number in after.left_short() if self.hours_left(number) == 1])
        after.passed = self.passed + ((self.now, served, leaving),)
        after.claimed = self.claimed >> self.yard.width
        after.claimed_before = self.claimed_before + (self.claimed,)
        return after
