"""The errors of the package.

They stand side by side under CableError, so that catching one never catches another.
"""


class CableError(ValueError):
    """Every error of the package is one of these."""


class BadRatio(CableError):
    """A fraction over zero, a division by zero, or a text that is no fraction."""


class BadRow(CableError):
    """A row is wrong at the index `place`, or there is nothing at it."""

    def __init__(self, place):
        super().__init__(f"the row is wrong at {place}")
        self.place = place


class BadRule(CableError):
    """The term at the index `place` of a rule is wrong."""

    def __init__(self, place):
        super().__init__(f"the rule is wrong at {place}")
        self.place = place


class BadKind(CableError):
    """The `part` of a kind of car is wrong."""

    def __init__(self, part):
        super().__init__(f"the {part} of the kind is wrong")
        self.part = part


class BadYard(CableError):
    """The `part` of a yard is wrong at the index `place`."""

    def __init__(self, part, place):
        super().__init__(f"the {part} of the yard is wrong at {place}")
        self.part = part
        self.place = place


class UnknownName(CableError):
    """Nothing has this `name`."""

    def __init__(self, name):
        super().__init__(f"nothing is called {name}")
        self.name = name


class BadLine(CableError):
    """The line with the number `line`, counted from 1, is wrong in the text of a yard."""

    def __init__(self, line):
        super().__init__(f"line {line} is wrong")
        self.line = line


class BadClaims(CableError):
    """A table of claims, a mask or a pair of claims is wrong."""


class BadDay(CableError):
    """A day is wrong at the car with the index `place`, or in its width if this is -1."""

    def __init__(self, place):
        super().__init__(f"the day is wrong at {place}")
        self.place = place


class BadPlan(CableError):
    """The `part` of a plan, or what was asked of it, is wrong."""

    def __init__(self, part):
        super().__init__(f"wrong for the plan: {part}")
        self.part = part


class NoPlan(CableError):
    """No plan serves all cars from the index `place` of a row on."""

    def __init__(self, place):
        super().__init__(f"no plan serves all cars at {place}")
        self.place = place


class TooManyStates(CableError):
    """There are more states than `most`."""

    def __init__(self, most):
        super().__init__(f"there are more than {most} states")
        self.most = most


class UnknownState(CableError):
    """There is no such state."""


class NotHeld(CableError):
    """The state of a game is not held."""


class Unbeaten(CableError):
    """The game holds, so it beats no rule."""


class Overloaded(CableError):
    """The cars need more units in the `hours` than the cable gives in them."""

    def __init__(self, hours):
        super().__init__(f"too much is needed in the hours {hours}")
        self.hours = hours


class Refused(CableError):
    """The deed with the index `place` was refused."""

    def __init__(self, place):
        super().__init__(f"the deed at {place} was refused")
        self.place = place


class NothingToUndo(CableError):
    """No deed is left to be taken back."""


class NothingToRedo(CableError):
    """No deed is left to be done once more."""
