"""Points 26, 28 and 30 and the interface of onecable/contests.py."""

import unittest
from fractions import Fraction

from onecable.contests import Contest
from onecable.errors import BadRow, CableError, NoPlan, TooManyStates, UnknownState
from onecable.explorers import Explorer
from onecable.kinds import Kind
from onecable.rows import Row
from onecable.rules import Rule
from onecable.surveys import Survey
from onecable.yards import make_yard
from tests.draws import Draws
from tests.models import (contest_step, explored, greatest_mean_by_walks, is_simple_ring, least_worst_letters,
                          longest_walks, no_claims, ring_mean, totals_from, walked)

EXAMPLE = make_yard(1, Kind("p", 2, 1), Kind("q", 1, 1), early=["p", "q"])

# Each rule serves another car first, and both leave nobody short.
HARMLESS = make_yard(1, Kind("a", 3, 1), Kind("b", 3, 2), x=["a", "b"])

FIRST_COME = Rule.parse("first come")

LEAST_LEFT = Rule.parse("least left")


def made(yard, first, second, most=200):
    """The contest, or None if it has too many states."""
    try:
        return Contest(yard, first, second, most=most)
    except TooManyStates:
        return None


class Case:
    """A contest, with its states and moves by the words of point 26."""

    def __init__(self, yard, first, second, contest):
        self.yard, self.first, self.second, self.contest = yard, first, second, contest
        self.step = contest_step(yard, first.terms, second.terms)
        self.states, self.graph = explored(yard, ((), (), no_claims(yard)), self.step)
        self.weights = [move[1] for entry in self.graph for move in entry if move is not None]


def drawn_cases(seed, many):
    draws = Draws(seed)
    found = []
    while len(found) < many:
        yard, first, second = draws.yard(draws.number(1, 3)), draws.rule(), draws.rule()
        contest = made(yard, first, second)
        if contest is not None:
            found.append(Case(yard, first, second, contest))
    return found


CASES = drawn_cases(30, 70)


class ContestTest(unittest.TestCase):
    example = Contest(EXAMPLE, FIRST_COME, LEAST_LEFT)

    def refuses(self, error, call, *arguments, **more):
        with self.assertRaises(error) as caught:
            call(*arguments, **more)
        self.assertIsInstance(caught.exception, CableError)
        return caught.exception


class Interface(ContestTest):
    def test_methods_stand_in_the_class(self):
        self.assertEqual(Contest.__module__, "onecable.contests")
        self.assertEqual(Contest.__bases__, (Explorer,))
        for name in ("__init__", "alike", "never_behind", "first_difference"):
            self.assertIn(name, vars(Contest))
        self.assertIsInstance(vars(Contest)["alike"], property)

    def test_keywords(self):
        self.assertEqual(len(Contest(yard=EXAMPLE, first=FIRST_COME, second=LEAST_LEFT, most=2)), 2)
        with self.assertRaises(TypeError):
            Contest(EXAMPLE, FIRST_COME, LEAST_LEFT, 400)


class States(ContestTest):
    def test_an_example(self):
        self.assertEqual(list(self.example), [((), (), (0, 0, 0, 0)), ((), ((2, 1, 1, 1),), (0, 1, 0, 1))])
        self.assertEqual([self.example.moves(0), self.example.moves(1)], [[(0, 0), (1, 1)], [(0, 0), None]])
        back = Contest(EXAMPLE, LEAST_LEFT, FIRST_COME)
        self.assertEqual(list(back), [((), (), (0, 0, 0, 0)), (((2, 1, 1, 1),), (), (0, 1, 0, 1))])
        self.assertEqual([back.moves(0), back.moves(1)], [[(0, 0), (1, -1)], [(0, 0), None]])

    def test_the_words_of_points_26_and_30(self):
        for case in CASES:
            many = len(case.states)
            self.assertEqual(list(case.contest), case.states)
            self.assertEqual(len(case.contest), many)
            self.assertEqual([case.contest.moves(number) for number in range(many)], case.graph)
            for number, state in enumerate(case.states):
                self.assertEqual([case.contest[number], case.contest.number(state)], [state, number])
                self.assertIs(state in case.contest, True)
        weights = {weight for case in CASES for weight in case.weights}
        self.assertTrue({-1, 0, 1} <= weights)
        self.assertGreater(max(len(case.states) for case in CASES), 50)

    def test_both_rules_have_the_width_of_the_yard(self):
        yard = make_yard(2, Kind("a", 1, 1), Kind("b", 2, 1), x=["a", "a", "b"])
        contest = Contest(yard, FIRST_COME, Rule.parse("most left"))
        self.assertEqual(list(contest)[1][:2], (((2, 1, 1, 1),), ()))
        self.assertEqual(contest.moves(0)[1], (1, -1))

    def test_no_such_state(self):
        for number in (-1, 2, 10 ** 9):
            for call in (self.example.__getitem__, self.example.moves, self.example.row_to, self.example.worth):
                self.refuses(UnknownState, call, number)
        for state in (((), (0, 0, 0, 0)), ((), (), (0, 0)), (((2, 1, 1, 1),), (), (0, 1, 0, 1))):
            self.assertIs(state in self.example, False)
            self.refuses(UnknownState, self.example.number, state)

    def test_too_many_states(self):
        for case in CASES:
            many = len(case.states)
            self.assertEqual(len(Contest(case.yard, case.first, case.second, most=many)), many)
            if many > 1:
                wrong = self.refuses(TooManyStates, Contest, case.yard, case.first, case.second, most=many - 1)
                self.assertEqual(wrong.most, many - 1)

    def test_most_is_400_if_not_given(self):
        yard = make_yard(2, Kind("a", 4, 1), Kind("b", 4, 3), Kind("c", 3, 2), Kind("d", 2, 1), Kind("e", 4, 2),
                         x=["a", "b"], y=["c", "d"], z=["e"], u=["a", "c", "e"])
        self.assertEqual(self.refuses(TooManyStates, Contest, yard, FIRST_COME, LEAST_LEFT).most, 400)
        self.assertGreater(len(Contest(yard, FIRST_COME, FIRST_COME, most=1000)), 400)


class WhatEveryExplorerDoes(ContestTest):
    def test_rows(self):
        for case in CASES[::3]:
            for hours in (0, 2, 3):
                rows = walked(case.yard, case.states[0], case.step, hours)
                for letters, state, weights in rows:
                    self.assertEqual(case.contest.total(Row(letters)), sum(weights))
                    self.assertEqual(case.contest[case.contest.track(Row(letters))[-1]], state)
                most = max(sum(weights) for _, _, weights in rows)
                worst = min(letters for letters, _, weights in rows if sum(weights) == most)
                self.assertEqual([case.contest.most_in(hours), case.contest.worst_row(hours)], [most, Row(worst)])

    def test_row_to(self):
        for case in CASES[::3]:
            least = {}
            for hours in range(5):
                for letters, state, _ in walked(case.yard, case.states[0], case.step, hours):
                    least.setdefault(state, Row(letters))
            for state, row in least.items():
                self.assertEqual(case.contest.row_to(case.contest.number(state)), row)

    def test_wrong_rows(self):
        for call in (self.example.track, self.example.total):
            self.assertEqual(self.refuses(BadRow, call, Row([1, 1, 2])).place, 2)
            self.assertEqual(self.refuses(NoPlan, call, Row([0, 1, 1])).place, 2)

    def test_means(self):
        for case in CASES:
            mean = case.contest.mean()
            best = greatest_mean_by_walks(case.graph)
            self.assertEqual((mean.num, mean.den), (best.numerator, best.denominator))
            self.assertGreaterEqual(mean.num, 0)
            self.assertEqual([case.contest.worth(number) for number in range(len(case.states))],
                             longest_walks(case.graph, mean.num, mean.den))
            begin, letters = case.contest.ring()
            ring = (case.contest.track(begin)[-1], list(letters))
            self.assertEqual(begin, case.contest.row_to(ring[0]))
            self.assertTrue(is_simple_ring(case.graph, ring))
            self.assertEqual(ring_mean(case.graph, ring), best)

    def test_two_hundred_hours_and_bounds(self):
        for case in CASES[::4]:
            most = case.contest.most_in(200)
            self.assertEqual(most, totals_from(case.graph, 200)[200][0])
            self.assertEqual(list(case.contest.worst_row(200)), least_worst_letters(case.graph, 200))
            mean = Fraction(case.contest.mean().num, case.contest.mean().den)
            for hours in (0, 1, 5, 200, 10 ** 29 + 1):
                exact = mean * hours + Fraction(case.contest.worth(0), mean.denominator)
                self.assertEqual(case.contest.bound(hours), exact.numerator // exact.denominator)
            self.assertLessEqual(most, case.contest.bound(200))

    def test_totals_of_two_surveys(self):
        draws = Draws(301)
        for case in CASES:
            first, second = Survey(case.yard, case.first), Survey(case.yard, case.second)
            for row in [case.contest.worst_row(9), case.contest.row_to(len(case.states) - 1)]:
                self.assertEqual(case.contest.total(row), first.total(row) - second.total(row))
            row = draws.row(case.yard, 4)
            try:
                total = case.contest.total(row)
            except NoPlan as wrong:
                self.assertEqual(self.refuses(NoPlan, first.total, row).place, wrong.place)
            else:
                self.assertEqual(total, first.total(row) - second.total(row))


class Alike(ContestTest):
    def test_equal_rules(self):
        for yard in (EXAMPLE, HARMLESS):
            contest = Contest(yard, FIRST_COME, Rule.parse("first come"))
            self.assertIs(contest.alike, True)
            self.assertIs(contest.never_behind(), True)
            self.assertIsNone(contest.first_difference())
            self.assertEqual([(first, first) for first, _, _ in contest],
                             [(first, second) for first, second, _ in contest])

    def test_rules_that_are_alike(self):
        contest = Contest(HARMLESS, FIRST_COME, Rule.parse("most want"))
        self.assertTrue(any(first != second for first, second, _ in contest))
        self.assertIs(contest.alike, True)
        self.assertIs(contest.never_behind(), True)
        self.assertIsNone(contest.first_difference())

    def test_the_words_of_point_30(self):
        answers = []
        for case in CASES:
            alike = all(weight == 0 for weight in case.weights)
            self.assertIs(case.contest.alike, alike)
            self.assertIs(case.contest.first_difference() is None, alike)
            answers.append(alike)
        self.assertTrue(answers.count(True) > 10 and answers.count(False) > 10)


class NeverBehind(ContestTest):
    def both_ways(self, yard, first, second):
        return [Contest(yard, Rule.parse(one), Rule.parse(two)).never_behind()
                for one, two in ((first, second), (second, first))]

    def test_behind_in_one_way(self):
        self.assertEqual(self.both_ways(EXAMPLE, "first come", "least left"), [False, True])

    def test_behind_by_one_unit_only(self):
        # The mean is 0: the first rule falls behind in the last letter only, and can't do so again and again.
        yard = make_yard(2, Kind("a", 2, 2), Kind("b", 1, 1), Kind("c", 2, 1), x=["c", "a", "b"])
        contest = Contest(yard, Rule.parse("most want"), Rule.parse("most slack, least need"))
        self.assertEqual([str(contest.mean()), contest.worth(0), contest.never_behind()], ["0", 1, False])
        self.assertEqual(self.both_ways(yard, "most want", "most slack, least need"), [False, True])

    def test_behind_in_both(self):
        yard = make_yard(2, Kind("a", 1, 1), Kind("b", 3, 1), Kind("c", 3, 2), x=["b"], y=["c", "c", "c"])
        self.assertEqual(self.both_ways(yard, "most want, most slack", "least left, most slack"), [False, False])
        # Here both means are 0.
        yard = make_yard(3, Kind("a", 3, 3), Kind("b", 1, 1), Kind("c", 3, 1), x=["b", "a"], y=["b"],
                         z=["a", "b", "c"])
        self.assertEqual(self.both_ways(yard, "first come", "least left, least want"), [False, False])

    def test_against_the_totals_of_long_rows(self):
        answers = []
        for case in CASES:
            # In these contests a total above 0 shows within so many hours, if there is one.
            tables = totals_from(case.graph, 3 * len(case.graph) + 5)
            never = all(table[0] <= 0 for table in tables)
            self.assertIs(case.contest.never_behind(), never)
            mean = case.contest.mean()
            answers.append((never, mean.num > 0))
        self.assertEqual(set(answers), {(True, False), (False, False), (False, True)})


class FirstDifference(ContestTest):
    def test_example(self):
        self.assertEqual(self.example.first_difference(), Row([1]))

    def test_the_least_row(self):
        lengths = []
        for case in CASES:
            found = case.contest.first_difference()
            if found is None:
                continue
            self.assertIs(type(found), Row)
            self.assertEqual(case.contest.total(Row(list(found)[:-1])), 0)
            lengths.append(len(found))
            if case.yard.letter_count ** len(found) < 5000:
                rows = [letters for hours in range(1, len(found) + 1)
                        for letters, _, weights in walked(case.yard, case.states[0], case.step, hours)
                        if weights[-1] != 0]
                self.assertEqual(found, Row(rows[0]))
        self.assertGreater(len(set(lengths)), 2)

    def test_a_weight_below_0_counts(self):
        self.assertEqual(Contest(EXAMPLE, LEAST_LEFT, FIRST_COME).first_difference(), Row([1]))


class Lists(ContestTest):
    def test_returned_lists_are_new(self):
        self.example.moves(0).clear()
        self.example.track(Row([1])).clear()
        self.assertEqual([self.example.moves(0), self.example.track(Row([1]))], [[(0, 0), (1, 1)], [0, 1]])


if __name__ == "__main__":
    unittest.main()
