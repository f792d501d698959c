"""Yards: the width of the cable, the kinds of cars and the batches in which they come."""

from onecable.errors import BadRow, BadYard, UnknownName
from onecable.kinds import is_name

MOST_WIDTH = 3

MOST_KINDS = 6

MOST_BATCHES = 4

MOST_CARS_OF_A_BATCH = 3


def _wrong_kind(kinds):
    """The least index that is wrong among the kinds, or None if there is none."""
    if len(kinds) == 0:
        return 0
    names = []
    for place, kind in enumerate(kinds):
        if place == MOST_KINDS or kind.name in names:
            return place
        names.append(kind.name)
    return None


def _are_cars(cars, kind_names):
    """True if these may be the cars of a batch."""
    if len(cars) < 1 or len(cars) > MOST_CARS_OF_A_BATCH:
        return False
    return all([car in kind_names for car in cars])


def _wrong_batch(menu, kind_names):
    """The least index that is wrong in the menu, or None if there is none."""
    if len(menu) == 0:
        return 0
    names = []
    for place, (name, cars) in enumerate(menu):
        if place == MOST_BATCHES or not is_name(name) or name in names or not _are_cars(cars, kind_names):
            return place
        names.append(name)
    return None


class Yard:
    """A width, kinds of cars, and a menu of batches, which are pairs of a name and names of kinds."""

    def __init__(self, width, kinds, menu):
        if width < 1 or width > MOST_WIDTH:
            raise BadYard("width", 0)
        place = _wrong_kind(kinds)
        if place is not None:
            raise BadYard("kinds", place)
        place = _wrong_batch(menu, [kind.name for kind in kinds])
        if place is not None:
            raise BadYard("menu", place)
        self.width = width
        self.kinds = tuple(kinds)
        self.menu = tuple([(name, tuple(cars)) for name, cars in menu])

    @property
    def letter_count(self):
        """The number of letters: one for each batch, and 0."""
        return len(self.menu) + 1

    @property
    def span(self):
        """The greatest stay of the kinds."""
        # int: where a class has an order, as Row does, max takes only plain numbers.
        return max([int(kind.stay) for kind in self.kinds])

    def has_letter(self, letter):
        """True if the number is a letter of the yard."""
        return letter >= 0 and letter < self.letter_count

    def check_row(self, row):
        """Raises BadRow at the first letter of the row that is not a letter of the yard."""
        for place, letter in enumerate(row):
            if not self.has_letter(letter):
                raise BadRow(place)

    def batch(self, letter):
        """The open cars that come with the letter."""
        if not self.has_letter(letter):
            raise BadRow(0)
        if letter == 0:
            return []
        _, names = self.menu[letter - 1]
        return [self.kind(name).car() for name in names]

    def letter(self, name):
        """The letter of the batch with that name."""
        for place, (batch_name, _) in enumerate(self.menu):
            if batch_name == name:
                return place + 1
        raise UnknownName(name)

    def kind(self, name):
        """The kind with that name."""
        for kind in self.kinds:
            if kind.name == name:
                return kind
        raise UnknownName(name)

    def day(self, row):
        """A tuple (come, stay, need) for each car of the row, hour by hour."""
        self.check_row(row)
        cars = []
        for come, letter in enumerate(row):
            for stay, need, _, _ in self.batch(letter):
                cars.append((come, stay, need))
        return cars

    def __eq__(self, other):
        return (
            isinstance(other, Yard)
            and self.width == other.width
            and self.kinds == other.kinds
            and self.menu == other.menu
        )


def make_yard(width, *kinds, **menu):
    """The yard with these kinds, and with a batch for each keyword."""
    return Yard(width, list(kinds), list(menu.items()))
