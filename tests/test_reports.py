"""Point 36 and the interface of onecable/reports.py."""

import unittest

from onecable.kinds import Kind
from onecable.reports import survey_lines
from onecable.rules import Rule
from onecable.surveys import Survey
from onecable.yards import make_yard

EXAMPLE = make_yard(1, Kind("p", 2, 1), Kind("q", 1, 1), early=["p", "q"])

LARGE = make_yard(3, Kind("a", 4, 1), Kind("b", 4, 3), Kind("c", 3, 2), Kind("d", 2, 1), Kind("e", 4, 2),
                  x=["a", "b"], y=["c", "d"], z=["e"], u=["a", "c", "e"])


class SurveyLines(unittest.TestCase):
    def test_interface(self):
        self.assertEqual(survey_lines.__module__, "onecable.reports")
        self.assertEqual(len(survey_lines(survey=Survey(EXAMPLE, Rule([])))), 2)

    def test_a_small_survey(self):
        self.assertEqual(survey_lines(Survey(EXAMPLE, Rule.parse("first come"))), [
            "   0      0:0      1:1  empty",
            "   1      0:0        -  1",
        ])

    def test_one_state(self):
        yard = make_yard(2, Kind("q", 1, 1), a=["q"], b=["q", "q"], c=["q", "q", "q"])
        self.assertEqual(survey_lines(Survey(yard, Rule([]))), ["   0      0:0      0:0      0:0        -  empty"])

    def test_rows_of_several_letters(self):
        yard = make_yard(1, Kind("p", 3, 1), Kind("q", 1, 1), x=["p", "q"], y=["p"])
        lines = survey_lines(Survey(yard, Rule.parse("least left")))
        self.assertEqual(lines, [
            "   0      0:0      1:0      0:0  empty",
            "   1      0:0      2:0      1:0  1",
            "   2      3:0        -      2:0  1 1",
            "   3      0:0        -      1:0  1 1 0",
        ])

    def test_weights(self):
        yard = make_yard(2, Kind("p", 4, 1), Kind("q", 1, 1), x=["p", "p", "p"], y=["p", "q", "q"])
        self.assertEqual(survey_lines(Survey(yard, Rule.parse("most stay")))[:4], [
            "   0      0:0      1:0      2:1  empty",
            "   1      0:0      3:0      4:2  1",
            "   2      0:0      5:0      4:1  2",
            "   3      0:0      6:0      7:2  1 1",
        ])

    def test_larger_surveys(self):
        survey = Survey(LARGE, Rule.parse("least slack"), most=1000)
        self.assertGreater(len(survey), 100)
        lines = survey_lines(survey)
        self.assertIs(type(lines), list)
        self.assertEqual(len(lines), len(survey))
        widths = set()
        for number, line in enumerate(lines):
            # 4 columns, 9 for each of the five letters, and then the row.
            self.assertEqual(line[:4], " " * (4 - len(str(number))) + str(number))
            for letter, move in enumerate(survey.moves(number)):
                field = "-" if move is None else str(move[0]) + ":" + str(move[1])
                self.assertEqual(line[4 + 9 * letter:13 + 9 * letter], " " * (9 - len(field)) + field)
                widths.add(len(field))
            self.assertEqual(line[49:], "  " + str(survey.row_to(number)))
        self.assertEqual(widths, {1, 3, 4, 5})

    def test_lists_are_new(self):
        survey = Survey(EXAMPLE, Rule.parse("first come"))
        survey_lines(survey).clear()
        self.assertEqual(len(survey_lines(survey)), 2)


if __name__ == "__main__":
    unittest.main()
