"""The whole program: points 1, 2, 17, 21, 24, 28, 29 and 33 on drawn yards, and all names of the interface."""

import importlib
import unittest

from onecable.best import best_plan, is_best
from onecable.claims import Claims, fair_rows, no_plan_at
from onecable.contests import Contest
from onecable.desks import Desk
from onecable.errors import CableError, NoPlan, TooManyStates
from onecable.games import Game
from onecable.reports import survey_lines
from onecable.rows import Row
from onecable.rules import Rule
from onecable.serving import run_rule
from onecable.surveys import Survey, least_spare
from onecable.yards import Yard
from onecable.yardtext import read_yard, yard_text
from tests.draws import Draws

INTERFACE = {
    "errors": {"CableError": "", "BadRatio": "", "BadRow": "", "BadRule": "", "BadKind": "", "BadYard": "",
               "UnknownName": "", "BadLine": "", "BadClaims": "", "BadDay": "", "BadPlan": "", "NoPlan": "",
               "TooManyStates": "", "UnknownState": "", "NotHeld": "", "Unbeaten": "", "Overloaded": "",
               "Refused": "", "NothingToUndo": "", "NothingToRedo": ""},
    "ratios": {"Ratio": "parse compare __str__ __add__ __radd__ __sub__ __rsub__ __mul__ __rmul__ __neg__ __abs__ "
                        "__floordiv__ __mod__ __eq__"},
    "rows": {"Row": "parse __str__ __len__ __iter__ __getitem__ __add__ __mul__ __rmul__ __eq__ __lt__ MOST"},
    "rules": {"Rule": "parse named __call__ order serve __str__ __len__ __iter__ __contains__ __add__ __neg__ __eq__"},
    "kinds": {"Kind": "slack car __str__ __eq__"},
    "yards": {"Yard": "letter_count span batch letter kind day __eq__", "make_yard": None},
    "yardtext": {"yard_text": None, "read_yard": None},
    "claims": {"Claims": "none of span over fits __len__ __iter__ __getitem__ __add__ __rshift__ __eq__",
               "next_claims": None, "no_plan_at": None, "fair_rows": None},
    "days": {"check_day": None, "day_hours": None, "demand": None},
    "plans": {"Plan": "set_hour got lack hours_of room total clone __getitem__ __setitem__ __len__ __iter__ __eq__"},
    "serving": {"serve_hour": None, "run_rule": None},
    "chains": {"reached": None, "find_chain": None, "follow": None},
    "best": {"gain": None, "improved": None, "missed": None, "best_plan": None, "is_best": None, "cut": None},
    "means": {"greatest_mean": None, "worths": None, "find_ring": None},
    "explorers": {"Explorer": "number moves row_to track total mean worth ring most_in worst_row bound __getitem__ "
                              "__len__ __iter__ __contains__"},
    "surveys": {"Survey": "never_short first_short", "least_spare": None},
    "contests": {"Contest": "alike never_behind first_difference"},
    "games": {"Game": "holds rank answers choice threat beat __len__ __iter__ __contains__"},
    "desks": {"Desk": "admit pass_hour change undo redo all_or_none would waiting hour rule shortage claims "
                      "__getitem__ __len__ __iter__"},
    "reports": {"survey_lines": None},
}


class Names(unittest.TestCase):
    def test_everything_stands_in_its_file(self):
        for file, things in INTERFACE.items():
            module = importlib.import_module("onecable." + file)
            for name, methods in things.items():
                thing = getattr(module, name)
                self.assertEqual(thing.__module__, "onecable." + file)
                if methods is not None:
                    self.assertIsInstance(thing, type)
                    for method in methods.split():
                        self.assertIn(method, vars(thing), name)

    def test_errors_stand_side_by_side(self):
        module = importlib.import_module("onecable.errors")
        self.assertEqual(CableError.__bases__, (ValueError,))
        for name in INTERFACE["errors"]:
            if name != "CableError":
                self.assertEqual(getattr(module, name).__bases__, (CableError,))


def made(call, *arguments, **more):
    try:
        return call(*arguments, **more)
    except TooManyStates:
        return None


def drawn(seed, many, width=None, longest=4):
    """Tuples of a yard, a rule and the survey of the rule."""
    draws = Draws(seed)
    found = []
    while len(found) < many:
        yard, rule = draws.yard(width or draws.number(1, 3), longest), draws.rule()
        survey = made(Survey, yard, rule, most=300)
        if survey is not None:
            found.append((yard, rule, survey))
    return found


def drawn_fair_row(draws, yard, hours):
    """A fair row with so many letters, and the hours in which the last cars leave."""
    row = Row([])
    while len(row) < hours:
        longer = row + Row([draws.number(0, yard.letter_count - 1)])
        if no_plan_at(yard, longer) == len(longer):
            row = longer
    return row + Row([0] * yard.span)


class Facts(unittest.TestCase):
    def test_a_row_is_fair_if_its_best_plan_serves_all(self):
        draws = Draws(401)
        answers = []
        for _ in range(60):
            yard = draws.yard(draws.number(1, 3))
            row = draws.row(yard, draws.number(1, 5))
            cars = yard.day(row)
            served = best_plan(yard.width, cars).total() == sum(need for _, _, need in cars)
            self.assertIs(no_plan_at(yard, row) == len(row), served)
            self.assertIs(row in list(fair_rows(yard, len(row))), served)
            answers.append(served)
        self.assertTrue(answers.count(True) > 10 and answers.count(False) > 10)

    def test_a_survey_tells_what_the_rule_leaves_short_in_the_day_of_a_row(self):
        draws = Draws(402)
        short = 0
        for yard, rule, survey in drawn(403, 40):
            for _ in range(3):
                row = drawn_fair_row(draws, yard, 9)
                plan = run_rule(yard.width, yard.day(row), rule)
                total = sum(plan.lack(number) for number in range(len(plan.cars)))
                self.assertEqual(survey.total(row), total)
                self.assertIs(is_best(plan), total == 0)
                self.assertEqual(best_plan(yard.width, yard.day(row)).total(), plan.total() + total)
                self.assertLessEqual(total, survey.bound(len(row)))
                self.assertLessEqual(total, survey.most_in(len(row)))
                short += total > 0
        self.assertGreater(short, 10)

    def test_worst_rows_and_rings(self):
        for yard, rule, survey in drawn(404, 25):
            for hours in (6, 30):
                row = survey.worst_row(hours)
                self.assertEqual(survey.total(row), survey.most_in(hours))
                self.assertEqual(no_plan_at(yard, row), hours)
            begin, ring = survey.ring()
            track = survey.track(begin + 3 * ring)
            self.assertEqual(track[len(begin)], track[-1])
            gained = survey.total(begin + 3 * ring) - survey.total(begin)
            self.assertEqual(gained * survey.mean().den, 3 * len(ring) * survey.mean().num)

    def test_spare_units(self):
        for yard, rule, survey in drawn(405, 25):
            spare = made(least_spare, yard, rule, most=300)
            if spare is None:
                continue
            self.assertIs(survey.never_short, spare == 0)
            # As a plan of that width, the rule then serves all cars of every fair row.
            row = survey.worst_row(7) + Row([0] * yard.span)
            plan = run_rule(yard.width + spare, yard.day(row), rule)
            self.assertEqual(plan.total(), sum(need for _, _, need in yard.day(row)))

    def test_contests_and_surveys(self):
        draws = Draws(406)
        for yard, rule, survey in drawn(407, 30):
            other = draws.rule()
            contest = made(Contest, yard, rule, other, most=400)
            if contest is None:
                continue
            second = made(Survey, yard, other)
            row = contest.worst_row(8)
            self.assertEqual(contest.total(row), survey.total(row) - second.total(row))
            if survey.never_short:
                self.assertIs(contest.never_behind(), True)
                self.assertIs(contest.alike, second.never_short)

    def test_width_1(self):
        draws = Draws(408)
        rule = Rule.parse("least left")
        for yard, _, _ in drawn(409, 25, width=1):
            self.assertIs(Survey(yard, rule, most=1000).never_short, True)
            self.assertIs(Game(yard, most=1000).holds, True)
            cars = draws.cars(draws.number(1, 20), 12, 8)
            self.assertIs(is_best(run_rule(1, cars, rule)), True)

    def test_stays_of_at_most_3_hours(self):
        rule = Rule.parse("least slack, most want")
        for yard, _, _ in drawn(410, 25, longest=3):
            survey = Survey(yard, rule, most=1000)
            self.assertIs(survey.never_short, True)
            self.assertTrue(all(Claims.of(yard.span, cars).table == table for cars, table in survey))
            self.assertIs(Game(yard, most=1000).holds, True)

    def test_games_and_surveys(self):
        for yard, rule, survey in drawn(411, 40):
            game = made(Game, yard)
            if game is None:
                continue
            if survey.never_short:
                self.assertIs(game.holds, True)
            if not game.holds:
                self.assertGreater(survey.total(game.beat(rule)), 0)

    def test_a_desk_serves_as_the_rule_does(self):
        draws = Draws(412)
        for yard, rule, survey in drawn(413, 25):
            row = drawn_fair_row(draws, yard, 6)
            desk = Desk(yard, str(rule))
            for letter in row:
                names = [] if letter == 0 else yard.menu[letter - 1][1]
                desk.all_or_none(*[("admit", name) for name in names])
                desk.pass_hour()
            self.assertEqual(desk.shortage, survey.total(row))
            self.assertEqual([car[:3] for car in (desk[number] for number in range(len(desk)))], yard.day(row))
            plan = run_rule(yard.width, yard.day(row), rule)
            hours = [served for _, served, _ in desk]
            self.assertEqual(hours[:len(plan)], list(plan)[:len(hours)])


class Texts(unittest.TestCase):
    def test_written_read_and_used_in_the_place_of_the_first_objects(self):
        for yard, rule, survey in drawn(414, 25):
            same_yard, same_rule = read_yard(yard_text(yard)), Rule.parse(str(rule))
            self.assertEqual((same_yard, same_rule), (yard, rule))
            again = Survey(same_yard, same_rule, most=300)
            self.assertEqual(list(again), list(survey))
            self.assertEqual(survey_lines(again), survey_lines(survey))
            for number in range(len(survey)):
                self.assertEqual(again.track(Row.parse(str(survey.row_to(number))))[-1], number)
            for line in survey_lines(survey)[:20]:
                number, text = int(line[:4]), line.split("  ")[-1]
                self.assertEqual(Row.parse(text), survey.row_to(number))

    def test_games_and_desks_of_read_yards(self):
        for yard, rule, _ in drawn(415, 10):
            same = read_yard(yard_text(yard))
            game, other = made(Game, yard), made(Game, same)
            if game is not None:
                self.assertEqual(set(game), set(other))
                self.assertEqual([game.rank(state) for state in game], [other.rank(state) for state in game])
            desk, twin = Desk(yard, str(rule)), Desk(same, str(Rule.parse(str(rule))))
            deeds = [("admit", yard.kinds[0].name), ("pass",), ("pass",)]
            self.assertEqual(desk.would(*deeds), twin.would(*deeds))


class Objects(unittest.TestCase):
    def test_passed_lists_may_be_changed_afterwards(self):
        for yard, rule, survey in drawn(416, 15):
            kinds, menu = list(yard.kinds), [[name, list(cars)] for name, cars in yard.menu]
            terms, letters = list(rule.terms), list(survey.worst_row(6))
            made_yard, made_rule, made_row = Yard(yard.width, kinds, menu), Rule(terms), Row(letters)
            contest = made(Contest, made_yard, made_rule, Rule([]), most=400)
            desk = Desk(made_yard, str(made_rule))
            again = Survey(made_yard, made_rule, most=300)
            total = again.total(made_row)
            for part in [cars for _, cars in menu] + [kinds, menu, terms, letters]:
                part.clear()
            self.assertEqual(survey_lines(again), survey_lines(survey))
            self.assertEqual(again.total(made_row), total)
            self.assertEqual(desk.admit(yard.kinds[0].name), 0)
            if contest is not None:
                other = Survey(yard, Rule([])).total(made_row)
                self.assertEqual(contest.total(made_row), total - other)

    def test_failed_calls_change_nothing(self):
        for yard, rule, survey in drawn(417, 15):
            before = survey_lines(survey), str(survey.mean()), survey.bound(9)
            for call, argument in ((survey.moves, -1), (survey.row_to, len(survey)), (survey.worth, 10 ** 6),
                                   (survey.number, ((), ())), (survey.track, Row([0, 4, 4, 4, 4])),
                                   (survey.total, 50 * Row([yard.letter_count - 1]) + Row([4]))):
                try:
                    call(argument)
                except CableError:
                    pass
            self.assertEqual((survey_lines(survey), str(survey.mean()), survey.bound(9)), before)

    def test_no_plan_names_the_place(self):
        seen = 0
        for yard, rule, survey in drawn(418, 30):
            row = 30 * Row([yard.letter_count - 1])
            if no_plan_at(yard, row) < 30:
                with self.assertRaises(NoPlan) as caught:
                    survey.total(row)
                self.assertEqual(caught.exception.place, no_plan_at(yard, row))
                seen += 1
        self.assertGreater(seen, 10)


if __name__ == "__main__":
    unittest.main()
