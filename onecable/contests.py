"""Contests: how two rules compare in all fair rows of a yard."""

from onecable.claims import Claims
from onecable.explorers import Explorer
from onecable.serving import rule_hour


class Contest(Explorer):
    """The states (open cars under the first rule, those under the second one, table of the claims)."""

    def __init__(self, yard, first, second, *, most=400):
        self.first_followed = first
        self.second_followed = second
        super().__init__(yard, ((), (), Claims.none(yard.span).table), most)

    def step(self, state, letter):
        """The next state and how much more the first rule leaves short, or None if the row would not be fair."""
        first_cars, second_cars, table = state
        after = self.table_after(table, letter)
        if after is None:
            return None
        coming = self.yard.batch(letter)
        first_left, first_short = rule_hour([*first_cars, *coming], self.first_followed, self.yard.width)
        second_left, second_short = rule_hour([*second_cars, *coming], self.second_followed, self.yard.width)
        return ((first_left, second_left, after), first_short - second_short)

    @property
    def alike(self):
        """True if both rules leave equally much short in each hour of each fair row."""
        return self.is_weightless()

    def never_behind(self):
        """True if no fair row has a total above 0."""
        # With a mean above 0 a ring can be repeated until the total is above 0, whatever it was before.
        return self.mean().num == 0 and self.worth(0) == 0

    def first_difference(self):
        """The least fair row whose last weight is not 0, or None if there is none."""
        return self.first_weighing()
