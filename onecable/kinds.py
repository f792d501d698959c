"""Kinds of cars and the names of kinds and batches."""

from onecable.errors import BadKind

MOST_LETTERS = 8

MOST_STAY = 4


def is_name(text):
    """True if the text is 1 to 8 letters from a to z."""
    return len(text) <= MOST_LETTERS and text.isascii() and text.isalpha() and text.islower()


class Kind:
    """A kind of car: how many hours it stays and how many units it needs."""

    def __init__(self, name, stay, need):
        if not is_name(name):
            raise BadKind("name")
        if stay < 1 or stay > MOST_STAY:
            raise BadKind("stay")
        if need < 1 or need > stay:
            raise BadKind("need")
        self.name = name
        self.stay = stay
        self.need = need

    @property
    def slack(self):
        """The number of hours in which the car can do without a unit."""
        return self.stay - self.need

    def car(self):
        """The open car of this kind when it comes."""
        return (self.stay, self.need, self.stay, self.need)

    def __str__(self):
        return f"kind {self.name} stay {self.stay} need {self.need}"

    def __eq__(self, other):
        return (
            isinstance(other, Kind)
            and self.name == other.name
            and self.stay == other.stay
            and self.need == other.need
        )
