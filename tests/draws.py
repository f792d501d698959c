"""Numbers that look drawn and are the same in every run, for the tests that try many inputs."""

from onecable.kinds import Kind
from onecable.rows import Row
from onecable.rules import Rule
from onecable.yards import Yard


class Draws:
    def __init__(self, seed):
        self.state = seed

    def number(self, low, high):
        """A number from low to high, both included."""
        self.state = (self.state * 6364136223846793005 + 1442695040888963407) % 2 ** 64
        return low + (self.state >> 33) % (high - low + 1)

    def one_of(self, things):
        return things[self.number(0, len(things) - 1)]

    def some_of(self, things, many):
        """So many of the things, each at most once, in any order."""
        left = list(things)
        return [left.pop(self.number(0, len(left) - 1)) for _ in range(many)]

    def cars(self, many, last, longest):
        """Cars of a day that come until the hour `last` and stay at most `longest` hours."""
        cars = []
        for _ in range(many):
            stay = self.number(1, longest)
            cars.append((self.number(0, last), stay, self.number(1, stay)))
        return cars

    def kinds(self, many, longest=4):
        """So many kinds of cars that stay at most `longest` hours."""
        kinds = []
        for name in "abcdef"[:many]:
            stay = self.number(1, longest)
            kinds.append(Kind(name, stay, self.number(1, stay)))
        return kinds

    def yard(self, width, longest=4, batches=3):
        """A yard with 1 to 3 kinds and 1 to `batches` batches."""
        kinds = self.kinds(self.number(1, 3), longest)
        menu = [(name, [self.one_of(kinds).name for _ in range(self.number(1, 3))])
                for name in ("x", "y", "z", "u")[:self.number(1, batches)]]
        return Yard(width, kinds, menu)

    def rule(self, most=3):
        """A rule of 0 to `most` terms."""
        words = self.some_of(["stay", "need", "left", "want", "here", "got", "slack"], self.number(0, most))
        return Rule([(self.one_of(["least", "most"]), word) for word in words])

    def row(self, yard, many):
        """A row of so many letters of the yard, fair or not."""
        return Row([self.number(0, yard.letter_count - 1) for _ in range(many)])
