"""The text of a yard, written and read."""

from onecable.errors import BadKind, BadLine, BadYard
from onecable.kinds import Kind, is_name
from onecable.yards import Yard

DIGITS = ("1", "2", "3", "4", "5", "6", "7", "8", "9")

# Stands for a word that is not a digit from 1 to 9: no width, stay or need is so.
_NO_NUMBER = 0


def yard_text(yard):
    """The text of the yard: its width, its kinds and its batches, a line each."""
    lines = [f"cable {yard.width}"]
    for kind in yard.kinds:
        lines.append(str(kind))
    for name, cars in yard.menu:
        lines.append(" ".join(["batch", name, *cars]))
    return "\n".join(lines)


def _number_of(word):
    """The number that is written as one digit from 1 to 9."""
    if word in DIGITS:
        return int(word)
    return _NO_NUMBER


def _width_of(words):
    """The width that the words of the first line give."""
    if len(words) != 2 or words[0] != "cable":
        raise BadLine(1)
    width = _number_of(words[1])
    if width == _NO_NUMBER:
        raise BadLine(1)
    return width


def _kind_of(words, line):
    """The kind that the words of a kind line give."""
    if len(words) != 6 or words[2] != "stay" or words[4] != "need":
        raise BadLine(line)
    try:
        return Kind(words[1], _number_of(words[3]), _number_of(words[5]))
    except BadKind:
        raise BadLine(line) from None


def _batch_of(words, line):
    """The name and the cars that the words of a batch line give."""
    names = words[1:]
    if len(names) < 2 or not all([is_name(name) for name in names]):
        raise BadLine(line)
    return (names[0], names[1:])


def _checked_yard(width, kinds, menu):
    """The yard of these parts, each of which was read from a right line."""
    first_lines = {"width": 1, "kinds": 2, "menu": 2 + len(kinds)}
    try:
        return Yard(width, kinds, menu)
    except BadYard as wrong:
        raise BadLine(first_lines[wrong.part] + wrong.place) from None


def read_yard(text):
    """The yard of a text."""
    lines = [line.split(" ") for line in text.split("\n")]
    width = _width_of(lines[0])
    kinds = []
    menu = []
    for line, words in enumerate(lines[1:], start=2):
        if words[0] == "kind" and len(menu) == 0:
            kinds.append(_kind_of(words, line))
        elif words[0] == "batch":
            menu.append(_batch_of(words, line))
        else:
            raise BadLine(line)
    return _checked_yard(width, kinds, menu)
