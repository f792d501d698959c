"""The desk: cars that come are admitted and served by a rule, and each deed can be taken back."""

from onecable.errors import BadPlan, CableError, NothingToRedo, NothingToUndo, Refused
from onecable.moments import Moment
from onecable.rules import Rule


def _has_form(deed):
    """True if this is ("admit", name), ("pass",) or ("rule", text)."""
    if not isinstance(deed, tuple):
        return False
    if len(deed) == 2:
        return deed[0] in ("admit", "rule") and isinstance(deed[1], str)
    return deed == ("pass",)


def _done(moment, deed):
    """The moment after the deed, and what the deed returns."""
    if deed[0] == "admit":
        return (moment.with_car(deed[1]), len(moment.cars))
    if deed[0] == "rule":
        return (moment.with_rule(deed[1]), None)
    after = moment.next_hour()
    _, served, _ = after.passed[-1]
    return (after, served)


def _all_done(moment, deeds):
    """The moment after all deeds, and the list of what they return."""
    returned = []
    for place, deed in enumerate(deeds):
        if not _has_form(deed):
            raise Refused(place)
        try:
            moment, answer = _done(moment, deed)
        except CableError:
            raise Refused(place) from None
        returned.append(answer)
    return (moment, returned)


class Desk:
    """The present moment, those before the deeds that can be undone, and those after the deeds that can be redone."""

    def __init__(self, yard, text):
        self.present = Moment(yard, Rule.parse(text))
        self.earlier = []
        self.later = []

    def go_on(self, moment):
        """Makes the moment the present one, by a deed that is not an undo or a redo."""
        self.earlier.append(self.present)
        self.later = []
        self.present = moment

    def admit(self, name):
        """Lets a car of the kind come in the present hour, and returns its number."""
        moment, number = _done(self.present, ("admit", name))
        self.go_on(moment)
        return number

    def pass_hour(self):
        """Serves the open cars by the rule, goes on to the next hour, and returns the numbers of the served cars."""
        moment, served = _done(self.present, ("pass",))
        self.go_on(moment)
        return served

    def change(self, text):
        """Makes the rule of the text the rule of the desk."""
        moment, _ = _done(self.present, ("rule", text))
        self.go_on(moment)

    def undo(self):
        """Takes back the latest deed that is not taken back."""
        if len(self.earlier) == 0:
            raise NothingToUndo("no deed is left to be taken back")
        self.later.append(self.present)
        self.present = self.earlier.pop()

    def redo(self):
        """Does the latest deed that was taken back once more."""
        if len(self.later) == 0:
            raise NothingToRedo("no deed is left to be done once more")
        self.earlier.append(self.present)
        self.present = self.later.pop()

    def all_or_none(self, *deeds):
        """Does the deeds as one, and returns the list of what they return."""
        moment, returned = _all_done(self.present, deeds)
        if len(deeds) > 0:
            self.go_on(moment)
        return returned

    def would(self, *deeds):
        """Returns what all_or_none would return, and leaves the desk as it is."""
        _, returned = _all_done(self.present, deeds)
        return returned

    def waiting(self):
        """The ascending list of the numbers of the open cars."""
        return self.present.waiting()

    @property
    def hour(self):
        """The present hour."""
        return self.present.now

    @property
    def rule(self):
        """The written form of the rule."""
        return str(self.present.picker)

    @property
    def shortage(self):
        """The units that the cars which left were short."""
        return self.present.shortage_so_far()

    @property
    def claims(self):
        """The claims of the admitted cars before the present hour is served."""
        return self.present.claimed

    def __len__(self):
        return len(self.present.cars)

    def __getitem__(self, at):
        if at < 0 or at >= len(self.present.cars):
            raise BadPlan("car")
        return self.present.cars[at]

    def __iter__(self):
        return iter(self.present.passed)
