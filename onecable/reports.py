"""Reports: a survey as lines of text."""


def _field(move):
    """The text of a move."""
    if move is None:
        return "-"
    following, weight = move
    return f"{following}:{weight}"


def _line(survey, number):
    """The line of a state."""
    fields = [_field(move).rjust(9) for move in survey.moves(number)]
    return "".join([str(number).rjust(4), *fields, "  ", str(survey.row_to(number))])


def survey_lines(survey):
    """One line for each state: its number, its moves and the least row to it."""
    return [_line(survey, number) for number in range(len(survey))]
