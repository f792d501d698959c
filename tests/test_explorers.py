"""Points 26 and 28 and the interface of onecable/explorers.py."""

import unittest
from fractions import Fraction

from onecable.claims import fair_rows, no_plan_at
from onecable.errors import BadRow, CableError, NoPlan, TooManyStates, UnknownState
from onecable.explorers import Explorer
from onecable.kinds import Kind
from onecable.ratios import Ratio
from onecable.rows import Row
from onecable.rules import Rule
from onecable.surveys import Survey
from onecable.yards import make_yard
from tests.draws import Draws
from tests.models import (explored, greatest_mean_by_walks, is_simple_ring, least_worst_letters, longest_walks,
                          no_claims, ring_mean, survey_step, totals_from, walked)

EXAMPLE = make_yard(1, Kind("p", 2, 1), Kind("q", 1, 1), early=["p", "q"])

YARDS = [
    EXAMPLE,
    make_yard(1, Kind("p", 2, 1), Kind("q", 1, 1), early=["p", "q"], noon=("q",), late=["p"]),
    make_yard(1, Kind("p", 3, 1), Kind("q", 2, 2), a=["p", "p"], b=["q"], c=["p", "q"]),
    make_yard(1, Kind("p", 4, 2), Kind("q", 1, 1), Kind("r", 3, 1), a=["p"], b=["q"], c=["r", "r"], d=["p", "q"]),
    make_yard(2, Kind("p", 3, 2), Kind("q", 4, 1), Kind("r", 2, 2), a=["p", "r"], b=["q", "q", "r"], c=["p"]),
    make_yard(2, Kind("p", 4, 4), Kind("q", 1, 1), a=["p"], b=["q", "q"], c=["p", "q"]),
    make_yard(3, Kind("p", 2, 2), Kind("q", 2, 1), Kind("r", 1, 1), a=["p", "q"], b=["q", "q", "r"], c=["r"]),
]

RULES = ["first come", "least slack", "most want, least stay", "most left, most got"]


class Case:
    """A survey, with its states and moves by the words of point 26."""

    def __init__(self, yard, text):
        self.yard = yard
        self.rule = Rule.parse(text)
        self.survey = Survey(yard, self.rule)
        self.step = survey_step(yard, self.rule.terms)
        self.states, self.graph = explored(yard, ((), no_claims(yard)), self.step)

    def rows(self, hours):
        """The fair rows with so many letters, walked: letters, last state, weights."""
        return walked(self.yard, self.states[0], self.step, hours)


CASES = [Case(yard, text) for yard in YARDS for text in RULES]


class ExplorerTest(unittest.TestCase):
    example = Survey(EXAMPLE, Rule.parse("first come"))

    def refuses(self, error, call, *arguments):
        with self.assertRaises(error) as caught:
            call(*arguments)
        self.assertIsInstance(caught.exception, CableError)
        return caught.exception


class Interface(ExplorerTest):
    def test_methods_stand_in_the_class(self):
        self.assertEqual(Explorer.__module__, "onecable.explorers")
        for name in ("number", "moves", "row_to", "track", "total", "mean", "worth", "ring", "most_in", "worst_row",
                     "bound", "__getitem__", "__len__", "__iter__", "__contains__"):
            self.assertIn(name, vars(Explorer))

    def test_keywords(self):
        survey = self.example
        self.assertEqual(survey.number(state=survey[1]), 1)
        self.assertEqual(survey.moves(number=1), [(0, 0), None])
        self.assertEqual(str(survey.row_to(number=1)), "1")
        self.assertEqual(survey.track(row=Row([1])), [0, 1])
        self.assertEqual(survey.total(row=Row([1])), 1)
        self.assertEqual(survey.worth(number=1), 0)
        self.assertEqual([survey.most_in(hours=3), str(survey.worst_row(hours=3)), survey.bound(hours=3)],
                         [2, "1 0 1", 2])


class States(ExplorerTest):
    def test_the_order_is_that_of_point_26(self):
        for case in CASES:
            many = len(case.states)
            self.assertEqual(list(case.survey), case.states)
            self.assertEqual(len(case.survey), many)
            self.assertEqual([case.survey.moves(number) for number in range(many)], case.graph)
        self.assertGreater(max(len(case.states) for case in CASES), 40)

    def test_items_and_numbers(self):
        for case in CASES[::3]:
            for number, state in enumerate(case.states):
                self.assertEqual(case.survey[number], state)
                self.assertEqual(case.survey.number(state), number)
                self.assertIs(state in case.survey, True)

    def test_no_such_number(self):
        for survey in [case.survey for case in CASES[::5]]:
            for number in (-1, -len(survey), len(survey), 10 ** 12):
                self.refuses(UnknownState, survey.__getitem__, number)
                self.refuses(UnknownState, survey.moves, number)
                self.refuses(UnknownState, survey.row_to, number)
                self.refuses(UnknownState, survey.worth, number)
            self.assertEqual(survey[len(survey) - 1], list(survey)[-1])

    def test_no_such_state(self):
        unknown = [((), (0, 0)), ((), ()), (((2, 1, 1, 1),), (0, 0, 0, 0)), ((), (0, 1, 0, 1), 0)]
        for state in unknown:
            self.assertIs(state in self.example, False)
            self.refuses(UnknownState, self.example.number, state)

    def test_types(self):
        for state in self.example:
            self.assertEqual([type(state), type(state[0]), type(state[1])], [tuple, tuple, tuple])
        self.assertEqual(list(self.example), [((), (0, 0, 0, 0)), ((), (0, 1, 0, 1))])
        self.assertEqual([type(self.example.moves(0)), type(self.example.moves(0)[0])], [list, tuple])

    def test_unpacking_and_loops_begin_anew(self):
        first, second = self.example
        self.assertEqual([first, second], list(self.example))
        self.assertEqual([(one, two) for one in self.example for two in self.example],
                         [(first, first), (first, second), (second, first), (second, second)])


class TooMany(ExplorerTest):
    def test_exactly_the_number_and_one_less(self):
        for case in CASES[::3]:
            many = len(case.states)
            self.assertEqual(list(Survey(case.yard, case.rule, most=many)), case.states)
            self.assertEqual(list(Survey(case.yard, case.rule, most=1000)), case.states)
            for most in (many - 1, 1):
                self.assertEqual(self.refuses_to_make(case.yard, case.rule, most), most)

    def refuses_to_make(self, yard, rule, most):
        with self.assertRaises(TooManyStates) as caught:
            Survey(yard, rule, most=most)
        self.assertIsInstance(caught.exception, CableError)
        return caught.exception.most

    def test_one_state(self):
        yard = make_yard(1, Kind("q", 1, 1), a=["q"], b=["q", "q"])
        survey = Survey(yard, Rule([]), most=1)
        self.assertEqual([len(survey), survey.moves(0)], [1, [(0, 0), (0, 0), None]])

    def test_most_is_400_if_not_given(self):
        yard = make_yard(3, Kind("a", 4, 1), Kind("b", 4, 3), Kind("c", 3, 2), Kind("d", 2, 1), Kind("e", 4, 2),
                         x=["a", "b"], y=["c", "d"], z=["e"], u=["a", "c", "e"])
        rule = Rule.parse("least slack")
        many = len(Survey(yard, rule, most=1000))
        self.assertGreater(many, 400)
        with self.assertRaises(TooManyStates) as caught:
            Survey(yard, rule)
        self.assertEqual(caught.exception.most, 400)


class Moves(ExplorerTest):
    def test_none_where_the_row_is_no_longer_fair(self):
        nones = 0
        for case in CASES[::2]:
            yard, survey = case.yard, case.survey
            for number in range(min(len(survey), 40)):
                row = survey.row_to(number)
                self.assertEqual(no_plan_at(yard, row), len(row))
                for letter, move in enumerate(survey.moves(number)):
                    longer = row + Row([letter])
                    self.assertIs(move is None, no_plan_at(yard, longer) == len(row))
                    if move is not None:
                        self.assertEqual(survey.track(longer)[-1], move[0])
                    nones += move is None
                self.assertEqual(len(survey.moves(number)), yard.letter_count)
                self.assertIsNotNone(survey.moves(number)[0])
        self.assertGreater(nones, 100)

    def test_lists_are_new(self):
        moves = self.example.moves(1)
        moves[1] = (0, 40)
        moves.clear()
        self.assertEqual(self.example.moves(1), [(0, 0), None])
        self.assertEqual(str(self.example.mean()), "1/2")
        self.example.track(Row([1])).clear()
        self.assertEqual(self.example.track(Row([1])), [0, 1])

    def test_yard_and_rule_may_be_made_of_lists_that_change(self):
        kinds, menu, terms = [Kind("p", 2, 1), Kind("q", 1, 1)], [("early", ["p", "q"])], [("least", "got")]
        yard = make_yard(1, *kinds, early=menu[0][1])
        survey = Survey(yard, Rule(terms))
        before = [survey.moves(number) for number in range(len(survey))]
        kinds.clear()
        menu[0][1].clear()
        terms.clear()
        self.assertEqual([survey.moves(number) for number in range(len(survey))], before)
        self.assertEqual(survey.total(Row([1, 0, 1])), 2)


class Rows(ExplorerTest):
    def test_row_to_is_the_least_fair_row(self):
        for case in CASES:
            longest = 5 if case.yard.letter_count < 4 else 4
            least = {}
            for hours in range(longest + 1):
                for letters, state, _ in case.rows(hours):
                    least.setdefault(state, letters)
            for number, state in enumerate(case.survey):
                if state in least:
                    self.assertEqual(case.survey.row_to(number), Row(least[state]))
                else:
                    self.assertGreater(len(case.survey.row_to(number)), longest)

    def test_row_to_leads_to_the_state(self):
        for survey in [case.survey for case in CASES]:
            rows = [survey.row_to(number) for number in range(len(survey))]
            self.assertEqual(rows[0], Row([]))
            self.assertEqual([survey.track(row)[-1] for row in rows], list(range(len(survey))))
            self.assertTrue(all(first < second for first, second in zip(rows, rows[1:])))

    def test_track_and_total(self):
        for case in CASES:
            for hours in (0, 1, 4):
                rows = case.rows(hours)
                self.assertEqual([Row(letters) for letters, _, _ in rows], list(fair_rows(case.yard, hours)))
                for letters, state, weights in rows:
                    track = case.survey.track(Row(letters))
                    self.assertEqual(len(track), hours + 1)
                    self.assertEqual(track[0], 0)
                    self.assertEqual(case.survey[track[-1]], state)
                    self.assertEqual(case.survey.total(Row(letters)), sum(weights))

    def test_empty_row(self):
        self.assertEqual([self.example.track(Row([])), self.example.total(Row([]))], [[0], 0])

    def test_long_rows(self):
        row = 1000 * Row([1, 0])
        self.assertEqual(self.example.track(row), [0, 1] * 1000 + [0])
        self.assertEqual(self.example.total(row), 1000)

    def test_wrong_rows(self):
        for row, place in (([2], 0), ([0, 1, 4], 2), ([1, 1, 2], 2), ([1, 1, 1, 3, 1, 2], 3)):
            for call in (self.example.track, self.example.total):
                self.assertEqual(self.refuses(BadRow, call, Row(row)).place, place)

    def test_rows_that_are_not_fair(self):
        for row, place in (([1, 1], 1), ([0, 1, 1, 0], 2), ([1, 0, 1, 1, 1], 3)):
            for call in (self.example.track, self.example.total):
                self.assertEqual(self.refuses(NoPlan, call, Row(row)).place, place)

    def test_drawn_rows(self):
        draws = Draws(28)
        kinds = []
        for case in CASES:
            yard, survey = case.yard, case.survey
            for _ in range(20):
                row = Row([draws.number(0, min(4, yard.letter_count)) if draws.number(0, 9) == 0 else
                           draws.number(0, yard.letter_count - 1) * draws.number(0, 1) for _ in range(6)])
                wrong = [place for place, letter in enumerate(row) if letter >= yard.letter_count]
                if wrong:
                    self.assertEqual(self.refuses(BadRow, survey.track, row).place, wrong[0])
                    self.assertEqual(self.refuses(BadRow, survey.total, row).place, wrong[0])
                    kinds.append("wrong")
                elif no_plan_at(yard, row) < 6:
                    self.assertEqual(self.refuses(NoPlan, survey.track, row).place, no_plan_at(yard, row))
                    self.assertEqual(self.refuses(NoPlan, survey.total, row).place, no_plan_at(yard, row))
                    kinds.append("not fair")
                else:
                    self.assertEqual(len(survey.track(row)), 7)
                    kinds.append("fair")
        self.assertTrue(all(kinds.count(kind) > 20 for kind in ("wrong", "not fair", "fair")))


class Means(ExplorerTest):
    def test_mean_and_worth(self):
        means = []
        for case in CASES:
            survey, graph = case.survey, case.graph
            mean = survey.mean()
            best = greatest_mean_by_walks(graph)
            self.assertIs(type(mean), Ratio)
            self.assertEqual((mean.num, mean.den), (best.numerator, best.denominator))
            self.assertGreaterEqual(mean.num, 0)
            self.assertEqual([survey.worth(number) for number in range(len(graph))],
                             longest_walks(graph, mean.num, mean.den))
            means.append(str(mean))
        self.assertGreater(len(set(means)), 3)

    def test_the_example(self):
        self.assertEqual(str(self.example.mean()), "1/2")
        self.assertEqual([self.example.worth(0), self.example.worth(1)], [1, 0])

    def test_asked_in_any_order(self):
        for first in ("worth", "bound", "ring", "mean"):
            survey = Survey(EXAMPLE, Rule.parse("first come"))
            getattr(survey, first)(*([0] if first in ("worth", "bound") else []))
            self.assertEqual([str(survey.mean()), survey.worth(0), survey.worth(1), survey.bound(7)], ["1/2", 1, 0, 4])
            self.refuses(UnknownState, survey.worth, 2)

    def test_ring(self):
        lengths = []
        for case in CASES:
            survey, graph = case.survey, case.graph
            begin, letters = survey.ring()
            self.assertEqual([type(begin), type(letters)], [Row, Row])
            number = survey.track(begin)[-1]
            self.assertEqual(begin, survey.row_to(number))
            ring = (number, list(letters))
            self.assertTrue(is_simple_ring(graph, ring))
            mean = survey.mean()
            self.assertEqual(ring_mean(graph, ring), Fraction(mean.num, mean.den))
            whole = begin + letters * 5
            self.assertEqual(survey.total(whole) - survey.total(begin), 5 * ring_mean(graph, ring) * len(letters))
            lengths.append(len(letters))
        self.assertGreater(len(set(lengths)), 2)


class Bounds(ExplorerTest):
    def test_the_words_of_point_28(self):
        draws = Draws(281)
        for survey in [case.survey for case in CASES]:
            mean = Fraction(survey.mean().num, survey.mean().den)
            for hours in [0, 1, 2, 3, 7, 100, 10 ** 29, 10 ** 30 - 1] + [draws.number(0, 10 ** 9) for _ in range(5)]:
                exact = mean * hours + Fraction(survey.worth(0), survey.mean().den)
                self.assertEqual(survey.bound(hours), exact.numerator // exact.denominator)
                self.assertIs(type(survey.bound(hours)), int)

    def test_no_fair_row_has_a_greater_total(self):
        reached = 0
        for survey in [case.survey for case in CASES]:
            for hours in (0, 1, 2, 3, 4, 5, 20, 50, 200):
                most = survey.most_in(hours)
                self.assertLessEqual(most, survey.bound(hours))
                reached += most == survey.bound(hours)
        self.assertGreater(reached, 50)

    def test_the_example(self):
        self.assertEqual([self.example.bound(hours) for hours in range(8)], [0, 1, 1, 2, 2, 3, 3, 4])
        self.assertEqual(self.example.bound(10 ** 29), 5 * 10 ** 28)
        self.assertEqual(self.example.bound(10 ** 30 - 1), 5 * 10 ** 29)


class WorstRows(ExplorerTest):
    def test_against_all_fair_rows(self):
        for case in CASES:
            for hours in range(6 if case.yard.letter_count < 4 else 5):
                rows = case.rows(hours)
                most = max(sum(weights) for _, _, weights in rows)
                worst = min(letters for letters, _, weights in rows if sum(weights) == most)
                self.assertEqual(case.survey.most_in(hours), most)
                self.assertEqual(case.survey.worst_row(hours), Row(worst))

    def test_no_hours(self):
        for survey in [case.survey for case in CASES]:
            self.assertEqual([survey.most_in(0), survey.worst_row(0)], [0, Row([])])

    def test_two_hundred_hours(self):
        for case in CASES:
            survey, graph = case.survey, case.graph
            for hours in (37, 200):
                row = survey.worst_row(hours)
                self.assertEqual(survey.most_in(hours), totals_from(graph, hours)[hours][0])
                self.assertEqual(list(row), least_worst_letters(graph, hours))
                self.assertEqual(survey.total(row), survey.most_in(hours))

    def test_the_example(self):
        self.assertEqual(self.example.most_in(200), 100)
        self.assertEqual(self.example.worst_row(200), 100 * Row([0, 1]))
        self.assertEqual(str(self.example.worst_row(5)), "1 0 1 0 1")


if __name__ == "__main__":
    unittest.main()
