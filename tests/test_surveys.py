"""Points 27 and 29 and the interface of onecable/surveys.py."""

import unittest

from onecable.claims import Claims
from onecable.errors import CableError, TooManyStates
from onecable.explorers import Explorer
from onecable.kinds import Kind
from onecable.rows import Row
from onecable.rules import Rule
from onecable.serving import run_rule
from onecable.surveys import Survey, least_spare
from onecable.yards import make_yard
from tests.draws import Draws
from tests.models import explored, no_claims, survey_step, walked

EXAMPLE = make_yard(1, Kind("p", 2, 1), Kind("q", 1, 1), early=["p", "q"])

# Under the rule `most slack` a car c waits while cars d come, until it wants more than it has hours left.
BEHIND = make_yard(1, Kind("c", 4, 2), Kind("d", 4, 1), x=["c", "d"], y=["d"])

ROOMY = make_yard(2, Kind("a", 4, 3), Kind("b", 2, 1), Kind("c", 1, 1), x=["a", "b"], y=["b", "c"], z=["c"])

FIRST_COME = Rule.parse("first come")

MOST_SLACK = Rule.parse("most slack")

PAIRS = [(EXAMPLE, FIRST_COME), (BEHIND, MOST_SLACK), (ROOMY, FIRST_COME)]


def made(yard, rule, spare=0, most=400):
    """The survey, or None if it has too many states."""
    try:
        return Survey(yard, rule, spare=spare, most=most)
    except TooManyStates:
        return None


def drawn_surveys(seed, many, most=150):
    """Tuples of a yard, a rule, the spare units and the survey."""
    draws = Draws(seed)
    found = []
    while len(found) < many:
        yard, rule, spare = draws.yard(draws.number(1, 3)), draws.rule(), draws.number(0, 2)
        survey = made(yard, rule, spare, most)
        if survey is not None:
            found.append((yard, rule, spare, survey))
    return found


class SurveyTest(unittest.TestCase):
    DRAWN = drawn_surveys(27, 60)

    def refuses_to_make(self, call, *arguments, most, **more):
        with self.assertRaises(TooManyStates) as caught:
            call(*arguments, most=most, **more)
        self.assertEqual(caught.exception.most, most)
        self.assertIsInstance(caught.exception, CableError)


class Interface(SurveyTest):
    def test_methods_stand_in_the_class(self):
        self.assertEqual([Survey.__module__, least_spare.__module__], ["onecable.surveys"] * 2)
        self.assertEqual(Survey.__bases__, (Explorer,))
        for name in ("__init__", "never_short", "first_short"):
            self.assertIn(name, vars(Survey))
        self.assertIsInstance(vars(Survey)["never_short"], property)

    def test_keywords(self):
        self.assertEqual(len(Survey(yard=EXAMPLE, rule=FIRST_COME, spare=0, most=2)), 2)
        self.assertEqual(least_spare(yard=EXAMPLE, rule=FIRST_COME, most=2), 1)

    def test_spare_and_most_are_keywords_only(self):
        with self.assertRaises(TypeError):
            Survey(EXAMPLE, FIRST_COME, 0)
        with self.assertRaises(TypeError):
            least_spare(EXAMPLE, FIRST_COME, 400)


class States(SurveyTest):
    def test_the_example_of_the_interface(self):
        survey = Survey(EXAMPLE, Rule.parse("first come"))
        self.assertEqual([survey.moves(0), survey.moves(1), str(survey.mean()), survey.bound(7)],
                         [[(0, 0), (1, 1)], [(0, 0), None], '1/2', 4])
        self.assertEqual(list(survey), [((), (0, 0, 0, 0)), ((), (0, 1, 0, 1))])

    def test_state_0(self):
        for yard, _, _, survey in self.DRAWN:
            self.assertEqual(survey[0], ((), Claims.none(yard.span).table))

    def test_the_words_of_point_27(self):
        spares = set()
        for yard, rule, spare, survey in self.DRAWN:
            states, graph = explored(yard, ((), no_claims(yard)), survey_step(yard, rule.terms, spare))
            self.assertEqual(list(survey), states)
            self.assertEqual([survey.moves(number) for number in range(len(states))], graph)
            spares.add(spare)
        self.assertEqual(spares, {0, 1, 2})

    def test_cars_stand_in_the_order_in_which_they_came(self):
        yard = make_yard(1, Kind("a", 4, 1), Kind("b", 3, 2), x=["b", "a"], y=["a"])
        survey = Survey(yard, Rule.parse("most need"))
        state = survey[survey.track(Row([1, 2]))[-1]]
        # Car b is served in both hours, so the two cars a remain, the earlier one in front.
        self.assertEqual(state[0], ((4, 1, 2, 1), (4, 1, 3, 1)))

    def test_rules_of_several_terms(self):
        draws = Draws(271)
        lengths = set()
        for _ in range(30):
            rule = draws.rule(7)
            lengths.add(len(rule))
            survey = made(ROOMY, rule)
            states, graph = explored(ROOMY, ((), no_claims(ROOMY)), survey_step(ROOMY, rule.terms))
            self.assertEqual(list(survey), states)
            self.assertEqual([survey.moves(number) for number in range(len(states))], graph)
        self.assertGreater(len(lengths), 4)

    def test_spare_0_to_12(self):
        for yard, rule in PAIRS:
            totals = []
            for spare in range(13):
                survey = Survey(yard, rule, spare=spare)
                states, graph = explored(yard, ((), no_claims(yard)), survey_step(yard, rule.terms, spare))
                self.assertEqual(list(survey), states)
                self.assertEqual([survey.moves(number) for number in range(len(states))], graph)
                totals.append(survey.most_in(12))
            self.assertEqual(totals, sorted(totals, reverse=True))
            self.assertGreater(totals[0], totals[-1])

    def test_no_spare_if_none_is_given(self):
        for yard, rule in PAIRS:
            self.assertEqual(list(Survey(yard, rule)), list(Survey(yard, rule, spare=0)))

    def test_want_greater_than_left(self):
        survey = Survey(BEHIND, MOST_SLACK)
        row = Row([1, 2, 2])
        self.assertEqual(survey[survey.track(row)[-1]][0], ((4, 2, 1, 2),))
        # In its last hour the car gets a unit and leaves one short, or gets none and leaves two short.
        self.assertEqual([survey.total(row), survey.total(row + Row([0])), survey.total(row + Row([2]))], [0, 1, 2])

    def test_the_spare_units_change_nothing_in_the_claims(self):
        for yard, rule in PAIRS:
            tables = [{table for _, table in Survey(yard, rule, spare=spare)} for spare in (0, 1, 12)]
            self.assertEqual(tables[0], tables[1])
            self.assertEqual(tables[0], tables[2])

    def test_against_the_plan_of_the_rule(self):
        for yard, rule, spare, survey in self.DRAWN[:30]:
            row = survey.worst_row(5) + Row([0] * yard.span)
            cars = yard.day(row)
            plan = run_rule(yard.width + spare, cars, rule)
            self.assertEqual(survey.total(row), sum(plan.lack(number) for number in range(len(cars))))


class Short(SurveyTest):
    def test_never_short(self):
        answers = []
        for _, _, _, survey in self.DRAWN:
            weights = [move[1] for number in range(len(survey)) for move in survey.moves(number) if move is not None]
            self.assertIs(survey.never_short, all(weight == 0 for weight in weights))
            self.assertIs(survey.never_short, survey.first_short() is None)
            answers.append(survey.never_short)
        self.assertEqual(set(answers), {True, False})

    def test_examples(self):
        short = Survey(EXAMPLE, FIRST_COME)
        self.assertIs(short.never_short, False)
        self.assertEqual(short.first_short(), Row([1]))
        fine = Survey(EXAMPLE, Rule.parse("least left"))
        self.assertIs(fine.never_short, True)
        self.assertIsNone(fine.first_short())

    def test_the_least_row(self):
        lengths = []
        for yard, rule, spare, survey in self.DRAWN:
            if survey.never_short:
                continue
            found = survey.first_short()
            self.assertIs(type(found), Row)
            self.assertGreater(survey.total(found), 0)
            self.assertEqual(survey.total(Row(list(found)[:-1])), 0)
            lengths.append(len(found))
            if yard.letter_count ** len(found) < 5000:
                step = survey_step(yard, rule.terms, spare)
                rows = [letters for hours in range(1, len(found) + 1)
                        for letters, _, weights in walked(yard, survey[0], step, hours) if weights[-1] > 0]
                self.assertEqual(found, Row(rows[0]))
        self.assertGreater(len(set(lengths)), 2)

    def test_a_row_of_several_hours(self):
        self.assertEqual(Survey(BEHIND, MOST_SLACK).first_short(), Row([1, 0, 1, 0]))
        later = Survey(make_yard(1, Kind("c", 3, 2), Kind("d", 4, 1), x=["d"], y=["c"]), Rule.parse("most left"))
        # The row 2 2 0 does it too: both are three hours long, and this one is the less one.
        self.assertEqual(later.first_short(), Row([2, 1, 1]))


class LeastSpare(SurveyTest):
    def test_none_one_and_more(self):
        self.assertEqual(least_spare(EXAMPLE, Rule.parse("least left")), 0)
        self.assertEqual(least_spare(EXAMPLE, FIRST_COME), 1)
        two = make_yard(1, Kind("a", 3, 1), Kind("b", 1, 1), Kind("c", 4, 4), x=["a", "a", "b"], y=["b", "b", "c"])
        self.assertEqual(least_spare(two, FIRST_COME), 2)
        three = make_yard(2, Kind("a", 1, 1), Kind("b", 4, 2), x=["b", "b", "a"])
        self.assertEqual(least_spare(three, FIRST_COME), 3)

    def test_the_least_one(self):
        found = []
        for yard, rule, _, _ in self.DRAWN:
            if made(yard, rule) is None:
                continue
            spare = least_spare(yard, rule)
            self.assertIs(Survey(yard, rule, spare=spare).never_short, True)
            for less in range(spare):
                self.assertIs(Survey(yard, rule, spare=less).never_short, False)
            found.append(spare)
        self.assertTrue({0, 1, 2} <= set(found))

    def test_small_most(self):
        self.refuses_to_make(least_spare, EXAMPLE, FIRST_COME, most=1)
        many = len(Survey(BEHIND, MOST_SLACK))
        self.refuses_to_make(least_spare, BEHIND, MOST_SLACK, most=many - 1)
        self.assertEqual(least_spare(BEHIND, MOST_SLACK, most=1000), least_spare(BEHIND, MOST_SLACK))

    def test_most_is_400_if_not_given(self):
        yard = make_yard(3, Kind("a", 4, 1), Kind("b", 4, 3), Kind("c", 3, 2), Kind("d", 2, 1), Kind("e", 4, 2),
                         x=["a", "b"], y=["c", "d"], z=["e"], u=["a", "c", "e"])
        for call in (Survey, least_spare):
            with self.assertRaises(TooManyStates) as caught:
                call(yard, Rule.parse("least slack"))
            self.assertEqual(caught.exception.most, 400)

    def test_only_surveys_that_are_tried_count(self):
        # Whatever most is, the answer is that of the surveys tried before, or the error of the first that fails.
        for yard, rule, _, _ in self.DRAWN[:20]:
            for most in (1, 3, 8, 20):
                spare = 0
                while made(yard, rule, spare, most) is not None and not made(yard, rule, spare, most).never_short:
                    spare += 1
                if made(yard, rule, spare, most) is None:
                    self.refuses_to_make(least_spare, yard, rule, most=most)
                else:
                    self.assertEqual(least_spare(yard, rule, most=most), spare)


class TooMany(SurveyTest):
    def test_exactly_and_one_less(self):
        for yard, rule, spare, survey in self.DRAWN:
            many = len(survey)
            self.assertEqual(len(Survey(yard, rule, spare=spare, most=many)), many)
            if many > 1:
                self.refuses_to_make(Survey, yard, rule, spare=spare, most=many - 1)


class Facts(SurveyTest):
    def test_least_left_with_the_width_1(self):
        draws = Draws(272)
        for _ in range(40):
            survey = made(draws.yard(1), Rule.parse("least left"))
            if survey is not None:
                self.assertIs(survey.never_short, True)

    def test_least_slack_most_want_with_stays_of_at_most_3_hours(self):
        draws = Draws(273)
        seen = 0
        for _ in range(60):
            yard = draws.yard(draws.number(1, 3), longest=3)
            survey = made(yard, Rule.parse("least slack, most want"))
            if survey is not None:
                self.assertIs(survey.never_short, True)
                self.assertEqual(least_spare(yard, Rule.parse("least slack, most want")), 0)
                for cars, table in survey:
                    self.assertEqual(Claims.of(yard.span, cars).table, table)
                seen += len(survey) > 3
        self.assertGreater(seen, 10)


if __name__ == "__main__":
    unittest.main()
