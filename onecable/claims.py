"""Claims: what the cars that have come must still take in each set of the coming hours.

A set of the coming hours is given by its mask: the bit k stands for the hour k,
and hour 0 is the present one.
"""

from onecable.errors import BadClaims
from onecable.rows import Row

SPANS = {2: 1, 4: 2, 8: 3, 16: 4}


def _mask_count(span):
    """The number of sets of so many hours."""
    # 2 ** span, which L27 allows for a literal span only.
    count = 1
    for _ in range(span):
        count = 2 * count
    return count


def _hours_in(mask, hours):
    """How many of the hours 0 to hours - 1 are in the set."""
    return sum([(mask >> hour) & 1 for hour in range(hours)])


def _demand(car, mask):
    """The number of units that the open car must take in the set of hours."""
    _, _, left, want = car
    return max(0, want - (left - _hours_in(mask, left)))


def _greater(first, second):
    """The greater one of two numbers."""
    # Not by max: where a class has an order, as Row does, max takes only what is plainly a number.
    return first if first > second else second


class Claims:
    """One number of units for each mask, in the order of the masks."""

    def __init__(self, table):
        if len(table) not in SPANS or any([number < 0 for number in table]):
            raise BadClaims("the table of the claims is wrong")
        self.table = tuple(table)

    @classmethod
    def none(cls, span):
        """The claims of no cars."""
        return cls([0] * _mask_count(span))

    @classmethod
    def of(cls, span, cars):
        """The claims of open cars: for each mask the sum of their demands."""
        return cls([sum([_demand(car, mask) for car in cars]) for mask in range(_mask_count(span))])

    @property
    def span(self):
        """The number of the coming hours."""
        return SPANS[len(self.table)]

    def over(self, width):
        """The least mask that claims more than the cable gives in its hours, or None."""
        span = self.span
        for mask, number in enumerate(self.table):
            if number > width * _hours_in(mask, span):
                return mask
        return None

    def fits(self, width):
        """True if no mask claims more than the cable gives in its hours."""
        return self.over(width) is None

    def __len__(self):
        return len(self.table)

    def __iter__(self):
        return iter(self.table)

    def __getitem__(self, at):
        if at < 0 or at >= len(self.table):
            raise BadClaims("there is no such mask")
        return self.table[at]

    def __add__(self, other):
        if len(self.table) != len(other.table):
            raise BadClaims("the spans differ")
        return Claims([mine + others for mine, others in zip(self.table, other.table)])

    def __rshift__(self, other):
        # The hours of a mask come one later than before, with the present hour outside of them or among them.
        lows = [2 * mask % len(self.table) for mask in range(len(self.table))]
        return Claims([_greater(self.table[low], self.table[low + 1] - other) for low in lows])

    def __eq__(self, other):
        return isinstance(other, Claims) and self.table == other.table


def next_claims(yard, claims, letter):
    """The claims one hour after the cars of the letter came, or None if no plan serves them all."""
    both = claims + Claims.of(yard.span, yard.batch(letter))
    if not both.fits(yard.width):
        return None
    return both >> yard.width


def no_plan_at(yard, row):
    """The index of the first letter whose cars no plan serves, or the length of the row."""
    yard.check_row(row)
    claims = Claims.none(yard.span)
    for place, letter in enumerate(row):
        claims = next_claims(yard, claims, letter)
        if claims is None:
            return place
    return len(row)


def fair_rows(yard, hours):
    """Yields the fair rows with so many letters in ascending order."""
    begun = [((), Claims.none(yard.span))]
    while len(begun) > 0:
        letters, claims = begun.pop()
        if len(letters) == hours:
            yield Row(letters)
        elif len(letters) < hours:
            # The greatest letter goes in first, so that the least one comes out first.
            for letter in reversed(range(yard.letter_count)):
                following = next_claims(yard, claims, letter)
                if following is not None:
                    begun.append((letters + (letter,), following))
