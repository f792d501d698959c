"""Surveys: what one rule leaves short in all fair rows of a yard."""

from onecable.claims import Claims
from onecable.explorers import Explorer
from onecable.serving import rule_hour


class Survey(Explorer):
    """The states (open cars, table of the claims) under one rule, whose cable may have spare units."""

    def __init__(self, yard, rule, *, spare=0, most=400):
        self.followed = rule
        self.cable = yard.width + spare
        super().__init__(yard, ((), Claims.none(yard.span).table), most)

    def step(self, state, letter):
        """The next state and what the leaving cars are short, or None if the row would no longer be fair."""
        cars, table = state
        after = self.table_after(table, letter)
        if after is None:
            return None
        remaining, short = rule_hour([*cars, *self.yard.batch(letter)], self.followed, self.cable)
        return ((remaining, after), short)

    @property
    def never_short(self):
        """True if no car leaves short in any fair row."""
        return self.is_weightless()

    def first_short(self):
        """The least fair row in whose last hour a car leaves short, or None if there is none."""
        return self.first_weighing()


def least_spare(yard, rule, *, most=400):
    """The least number of spare units with which the survey of the rule is never short."""
    spare = 0
    while not Survey(yard, rule, spare=spare, most=most).never_short:
        spare += 1
    return spare
