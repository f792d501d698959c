"""Rows of letters: what comes in each hour."""

from onecable.errors import BadRow

LETTERS = (0, 1, 2, 3, 4)

# Stands for a part of a text that is not a letter, so that Row finds its place.
_NO_LETTER = -1


def _letter_of(part):
    """The letter that is written so, or what is none."""
    for letter in LETTERS:
        if part == str(letter):
            return letter
    return _NO_LETTER


class Row:
    """One letter for each hour from hour 0 on."""

    MOST = 2000

    def __init__(self, letters):
        for place, letter in enumerate(letters):
            if place == self.MOST or letter not in LETTERS:
                raise BadRow(place)
        self.letters = tuple(letters)

    @classmethod
    def parse(cls, text):
        """The row that is written so."""
        if text == "empty":
            return cls([])
        return cls([_letter_of(part) for part in text.split(" ")])

    def __str__(self):
        if len(self.letters) == 0:
            return "empty"
        return " ".join([str(letter) for letter in self.letters])

    def __len__(self):
        return len(self.letters)

    def __iter__(self):
        return iter(self.letters)

    def __getitem__(self, at):
        if at < 0 or at >= len(self.letters):
            raise BadRow(at)
        return self.letters[at]

    def __add__(self, other):
        return Row(self.letters + other.letters)

    def __mul__(self, other):
        # Refused before it is built: it could be far longer than a row may be.
        if len(self.letters) * other > self.MOST:
            raise BadRow(self.MOST)
        return Row(self.letters * other)

    def __rmul__(self, other):
        return self * other

    def __eq__(self, other):
        if not isinstance(other, Row):
            return NotImplemented
        return (len(self.letters), self.letters) == (len(other.letters), other.letters)

    def __lt__(self, other):
        if not isinstance(other, Row):
            return NotImplemented
        return (len(self.letters), self.letters) < (len(other.letters), other.letters)
