"""Rules: which open cars take a unit in an hour."""

from onecable.errors import BadRule

WORDS = ("stay", "need", "left", "want", "here", "got", "slack")

OTHER_SIDE = {"least": "most", "most": "least"}

NAMED_RULES = {
    "equal": "least got",
    "first come": "first come",
    "least slack": "least slack",
    "first leave": "least left",
}


def _measures(car):
    """The measures of an open car by their words."""
    stay, need, left, want = car
    return {
        "stay": stay,
        "need": need,
        "left": left,
        "want": want,
        "here": stay - left,
        "got": need - want,
        "slack": left - want,
    }


def _numbers(terms, car):
    """The numbers by which the terms compare an open car with others: the least ones come first."""
    measures = _measures(car)
    return tuple([measures[word] if side == "least" else -measures[word] for side, word in terms])


def _place_behind(ordered, numbers):
    """The index in a list of ascending tuples behind all that are not greater than the numbers."""
    low = 0
    high = len(ordered)
    while low < high:
        middle = (low + high) // 2
        if numbers < ordered[middle]:
            high = middle
        else:
            low = middle + 1
    return low


def _term_of(part):
    """The side and the word of a part of a text, right or wrong."""
    side, _, word = part.partition(" ")
    return (side, word)


class Rule:
    """A sequence of terms (side, word), the first one being the most important one."""

    def __init__(self, terms):
        words = []
        for place, (side, word) in enumerate(terms):
            if side not in OTHER_SIDE or word not in WORDS or word in words:
                raise BadRule(place)
            words.append(word)
        self.terms = tuple([(side, word) for side, word in terms])

    @classmethod
    def parse(cls, text):
        """The rule that is written so."""
        if text == "first come":
            return cls([])
        return cls([_term_of(part) for part in text.split(", ")])

    @classmethod
    def named(cls, name):
        """The rule of one of the four names."""
        if name not in NAMED_RULES:
            raise BadRule(0)
        return cls.parse(NAMED_RULES[name])

    def __call__(self, car):
        return _numbers(self.terms, car)

    def order(self, cars):
        """The indexes of the open cars in the order in which the rule serves them."""
        # Not by sorted: where a class has an order, as Row does, it takes only plain numbers and strings.
        ordered = []
        indexes = []
        for index, car in enumerate(cars):
            numbers = _numbers(self.terms, car)
            place = _place_behind(ordered, numbers)
            ordered.insert(place, numbers)
            indexes.insert(place, index)
        return indexes

    def serve(self, cars, width):
        """The ascending indexes of the open cars that take a unit of so many."""
        served = set(self.order(cars)[:width])
        return [index for index in range(len(cars)) if index in served]

    def __str__(self):
        if len(self.terms) == 0:
            return "first come"
        return ", ".join([f"{side} {word}" for side, word in self.terms])

    def __len__(self):
        return len(self.terms)

    def __iter__(self):
        return iter(self.terms)

    def __contains__(self, x):
        return x in [word for _, word in self.terms]

    def __add__(self, other):
        return Rule(self.terms + tuple([(side, word) for side, word in other.terms if word not in self]))

    def __neg__(self):
        return Rule([(OTHER_SIDE[side], word) for side, word in self.terms])

    def __eq__(self, other):
        return isinstance(other, Rule) and self.terms == other.terms
