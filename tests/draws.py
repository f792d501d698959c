"""Numbers that look drawn and are the same in every run, for the tests that try many inputs."""


class Draws:
    def __init__(self, seed):
        self.state = seed

    def number(self, low, high):
        """A number from low to high, both included."""
        self.state = (self.state * 6364136223846793005 + 1442695040888963407) % 2 ** 64
        return low + (self.state >> 33) % (high - low + 1)

    def one_of(self, things):
        return things[self.number(0, len(things) - 1)]

    def some_of(self, things, many):
        """So many of the things, each at most once, in any order."""
        left = list(things)
        return [left.pop(self.number(0, len(left) - 1)) for _ in range(many)]

    def cars(self, many, last, longest):
        """Cars of a day that come until the hour `last` and stay at most `longest` hours."""
        cars = []
        for _ in range(many):
            stay = self.number(1, longest)
            cars.append((self.number(0, last), stay, self.number(1, stay)))
        return cars
