"""Points 31, 32 and 33 and the interface of onecable/games.py."""

import unittest
from itertools import combinations

from onecable.claims import Claims, next_claims, no_plan_at
from onecable.errors import (BadRow, CableError, NoPlan, NotHeld, TooManyStates, Unbeaten, UnknownState)
from onecable.games import Game
from onecable.kinds import Kind
from onecable.rows import Row
from onecable.rules import Rule
from onecable.surveys import Survey, least_spare
from onecable.yards import make_yard
from tests.draws import Draws
from tests.models import game_answers, game_ranks, game_states, hour_by, no_claims, table_after

EXAMPLE = make_yard(1, Kind("p", 2, 1), Kind("q", 1, 1), early=["p", "q"])

# Whatever is served here, letters can follow after which somebody is short.
LOSING = make_yard(2, Kind("a", 1, 1), Kind("b", 4, 2), x=["b"], y=["a", "a"], z=["a", "b"])

WIDE = make_yard(3, Kind("a", 4, 2), Kind("b", 2, 2), Kind("c", 1, 1), x=["b", "a", "c"])

FULL = make_yard(1, Kind("q", 1, 1), a=["q"], b=["q", "q"])

RULES = ["first come", "least left", "least slack", "most slack", "least got", "most want, least stay",
         "least slack, most want", "least need, most here", "most left", "least slack, least left"]


def made(yard, most=250):
    """The game, or None if it has too many states."""
    try:
        return Game(yard, most=most)
    except TooManyStates:
        return None


def drawn_games(seed, many, width=None, longest=4):
    draws = Draws(seed)
    found = []
    while len(found) < many:
        yard = draws.yard(width or draws.number(1, 3), longest)
        game = made(yard)
        if game is not None:
            found.append((yard, game))
    return found


GAMES = drawn_games(31, 60) + [(yard, Game(yard)) for yard in (EXAMPLE, LOSING, WIDE, FULL)]


class GameTest(unittest.TestCase):
    example = Game(EXAMPLE)
    losing = Game(LOSING)

    def refuses(self, error, call, *arguments, **more):
        with self.assertRaises(error) as caught:
            call(*arguments, **more)
        self.assertIsInstance(caught.exception, CableError)
        return caught.exception


class Interface(GameTest):
    def test_methods_stand_in_the_class(self):
        self.assertEqual(Game.__module__, "onecable.games")
        for name in ("__init__", "holds", "rank", "answers", "choice", "threat", "beat", "__len__", "__iter__",
                     "__contains__"):
            self.assertIn(name, vars(Game))
        self.assertIsInstance(vars(Game)["holds"], property)

    def test_keywords(self):
        game = Game(yard=EXAMPLE, most=400)
        start = ((), (0, 0, 0, 0))
        self.assertEqual([game.rank(state=start), game.threat(state=start)], [0, None])
        self.assertEqual(game.choice(state=start, letter=1), ((1, 1),))
        self.assertEqual(len(game.answers(state=start, letter=1)), 2)
        self.assertIsInstance(self.losing.beat(rule=Rule([])), Row)
        with self.assertRaises(TypeError):
            Game(EXAMPLE, 400)


class States(GameTest):
    def test_an_example(self):
        self.assertEqual(sorted(self.example), [((), (0, 0, 0, 0)), (((1, 1),), (0, 1, 0, 1))])

    def test_all_that_are_reached(self):
        for yard, game in GAMES:
            states = game_states(yard)
            self.assertEqual(len(game), len(states))
            listed = list(game)
            self.assertEqual(len(listed), len(states))
            self.assertEqual(set(listed), states)
            self.assertTrue(all((state in game) is True for state in states))
        self.assertGreater(max(len(game) for _, game in GAMES), 100)

    def test_the_first_state(self):
        for yard, game in GAMES:
            self.assertIn(((), Claims.none(yard.span).table), game)

    def test_types(self):
        for state in self.losing:
            self.assertEqual([type(state), type(state[0]), type(state[1])], [tuple, tuple, tuple])
            self.assertTrue(all(type(pair) is tuple and len(pair) == 2 for pair in state[0]))
            self.assertEqual(list(state[0]), sorted(state[0]))

    def test_no_such_state(self):
        for state in (((), (0, 0)), (((1, 1), (1, 1)), (0, 1, 0, 1)), (((2, 1, 1, 1),), (0, 1, 0, 1)), ((), ())):
            self.assertIs(state in self.example, False)
            self.refuses(UnknownState, self.example.rank, state)
            self.refuses(UnknownState, self.example.threat, state)
            for letter in (-1, 0, 1, 9):
                self.refuses(UnknownState, self.example.answers, state, letter)
                self.refuses(UnknownState, self.example.choice, state, letter)

    def test_too_many_states(self):
        for yard, game in GAMES[::2]:
            many = len(game)
            self.assertEqual(set(Game(yard, most=many)), set(game))
            if many > 1:
                self.assertEqual(self.refuses(TooManyStates, Game, yard, most=many - 1).most, many - 1)
                self.assertEqual(self.refuses(TooManyStates, Game, yard, most=1).most, 1)

    def test_most_is_400_if_not_given(self):
        yard = make_yard(2, Kind("a", 4, 1), Kind("b", 4, 3), Kind("c", 3, 2), Kind("d", 2, 1), Kind("e", 4, 2),
                         x=["a", "b"], y=["c", "d"], z=["e"], u=["a", "c", "e"])
        self.assertGreater(len(Game(yard, most=1000)), 400)
        self.assertEqual(self.refuses(TooManyStates, Game, yard).most, 400)


class Answers(GameTest):
    def test_nobody_is_there(self):
        for yard, game in GAMES:
            start = ((), no_claims(yard))
            self.assertEqual(game.answers(start, 0), [((), start)])
            self.assertEqual(game.rank(start) == 0, game.holds)

    def test_examples(self):
        start, waiting = ((), (0, 0, 0, 0)), (((1, 1),), (0, 1, 0, 1))
        self.assertEqual(self.example.answers(start, 1), [(((1, 1),), waiting), (((2, 1),), None)])
        self.assertEqual(self.example.answers(waiting, 0), [(((1, 1),), start)])
        self.assertIsNone(self.example.answers(waiting, 1))

    def test_equal_pairs(self):
        yard = make_yard(2, Kind("b", 4, 2), x=["b", "b", "b"])
        start = ((), no_claims(yard))
        [(answer, after)] = Game(yard).answers(start, 1)
        self.assertEqual(answer, ((4, 2), (4, 2)))
        self.assertEqual(after[0], ((3, 1), (3, 1), (3, 2)))
        pairs = Game(yard).answers(after, 0)
        self.assertEqual([answer for answer, _ in pairs], [((3, 1), (3, 1)), ((3, 1), (3, 2))])

    def test_three_of_several_pairs(self):
        kinds = [Kind("a", 4, 1), Kind("b", 4, 2), Kind("c", 3, 2)]
        yard = make_yard(3, *kinds, x=["b", "c", "b"], y=["a", "b", "a"])
        game = Game(yard, most=2000)
        [answer, waiting] = game.answers(((), no_claims(yard)), 1)[0]
        self.assertEqual(answer, ((3, 2), (4, 2), (4, 2)))
        self.assertEqual(waiting[0], ((2, 1), (3, 1), (3, 1)))
        there = ((2, 1), (3, 1), (3, 1), (4, 1), (4, 1), (4, 2))
        self.assertEqual([answer for answer, _ in game.answers(waiting, 2)],
                         sorted(set(combinations(there, 3))))

    def test_all_are_served_if_there_are_fewer_than_the_width(self):
        yard = make_yard(3, Kind("a", 2, 1), Kind("b", 3, 2), x=["a", "b"])
        start = ((), no_claims(yard))
        after = (((2, 1),), table_after(yard, no_claims(yard), 1))
        self.assertEqual(Game(yard).answers(start, 1), [(((2, 1), (3, 2)), after)])

    def test_the_words_of_point_31(self):
        seen = {"none": 0, "lost": 0, "several": 0}
        for yard, game in GAMES:
            for state in game:
                for letter in range(yard.letter_count):
                    expected = game_answers(yard, state, letter)
                    found = game.answers(state, letter)
                    if expected is None:
                        self.assertIsNone(found)
                        seen["none"] += 1
                        continue
                    self.assertIs(type(found), list)
                    self.assertEqual(found, sorted(expected.items(), key=lambda pair: pair[0]))
                    seen["lost"] += None in expected.values()
                    seen["several"] += len(found) > 3
        self.assertTrue(all(many > 50 for many in seen.values()))

    def test_lists_are_new(self):
        start = ((), (0, 0, 0, 0))
        found = self.example.answers(start, 1)
        found.clear()
        self.assertEqual(len(self.example.answers(start, 1)), 2)
        self.assertEqual(self.example.choice(start, 1), ((1, 1),))

    def test_wrong_letters(self):
        for state in self.losing:
            for letter in (-1, 4, 5, 100):
                for call in (self.losing.answers, self.losing.choice):
                    self.assertEqual(self.refuses(BadRow, call, state, letter).place, 0)


class Ranks(GameTest):
    def test_the_words_of_point_32(self):
        highest = 0
        for yard, game in GAMES:
            ranks = game_ranks(yard)
            for state in game:
                self.assertEqual(game.rank(state), ranks.get(state, 0))
            self.assertIs(game.holds, ((), no_claims(yard)) not in ranks)
            highest = max([highest, *ranks.values()])
        self.assertGreater(highest, 4)

    def test_a_game_that_does_not_hold(self):
        self.assertIs(self.losing.holds, False)
        self.assertEqual(LOSING.width, 2)
        self.assertEqual(self.losing.rank(((), no_claims(LOSING))), 6)
        self.assertIs(Game(WIDE).holds, False)

    def test_rank_1(self):
        found = [state for state in self.losing if self.losing.rank(state) == 1]
        self.assertGreater(len(found), 0)
        for state in found:
            letter = self.losing.threat(state)
            self.assertTrue(all(after is None for _, after in self.losing.answers(state, letter)))

    def test_games_with_held_states_and_others(self):
        both = [game for _, game in GAMES if game.holds and any(game.rank(state) > 0 for state in game)]
        self.assertGreater(len(both), 3)


class Choices(GameTest):
    def test_from_held_to_held(self):
        seen = {"choice": 0, "not fair": 0, "not held": 0}
        for yard, game in GAMES:
            for state in game:
                for letter in range(yard.letter_count):
                    answers = game.answers(state, letter)
                    if answers is None:
                        self.assertEqual(self.refuses(NoPlan, game.choice, state, letter).place, 0)
                        seen["not fair"] += 1
                    elif game.rank(state) > 0:
                        self.refuses(NotHeld, game.choice, state, letter)
                        seen["not held"] += 1
                    else:
                        answer = game.choice(state, letter)
                        self.assertEqual(game.rank(dict(answers)[answer]), 0)
                        self.assertIs(type(answer), tuple)
                        seen["choice"] += 1
        self.assertTrue(all(many > 50 for many in seen.values()))

    def test_the_order_of_the_errors(self):
        unknown = ((), (1, 1))
        self.refuses(UnknownState, self.losing.choice, unknown, 9)
        [state] = [state for state in self.losing if self.losing.rank(state) > 0
                   and self.losing.answers(state, 3) is None][:1]
        self.assertEqual(self.refuses(BadRow, self.losing.choice, state, 4).place, 0)
        self.assertEqual(self.refuses(NoPlan, self.losing.choice, state, 3).place, 0)
        self.refuses(NotHeld, self.losing.choice, state, 0)

    def test_play_that_holds(self):
        draws = Draws(311)
        for yard, game in [pair for pair in GAMES if pair[1].holds][:30]:
            state = ((), no_claims(yard))
            for _ in range(40):
                letter = draws.number(0, yard.letter_count - 1)
                if game.answers(state, letter) is not None:
                    state = dict(game.answers(state, letter))[game.choice(state, letter)]
                    self.assertTrue(all(want <= left for left, want in state[0]))


class Threats(GameTest):
    def test_the_words_of_point_32(self):
        threats = 0
        for yard, game in GAMES:
            for state in game:
                rank = game.rank(state)
                giving = [letter for letter in range(yard.letter_count) if game.answers(state, letter) is not None
                          and all(after is None or 0 < game.rank(after) < rank
                                  for _, after in game.answers(state, letter))]
                if rank == 0:
                    self.assertIsNone(game.threat(state))
                else:
                    self.assertEqual(game.threat(state), giving[0])
                    threats += len(giving) > 1
        self.assertGreater(threats, 10)


class Beating(GameTest):
    def check(self, yard, game, rule):
        """Plays the row step by step in the words of point 32, and returns how far the car was lost before it left."""
        row = game.beat(rule)
        self.assertIs(type(row), Row)
        self.assertEqual(no_plan_at(yard, row), len(row))
        cars, table, waited = (), no_claims(yard), 0
        for place, letter in enumerate(row):
            if any(want > left for _, _, left, want in cars):
                self.assertEqual(letter, 0)
                waited += 1
            else:
                state = (tuple(sorted((left, want) for _, _, left, want in cars)), table)
                self.assertEqual(letter, game.threat(state))
            table = next_claims(yard, Claims(table), letter).table
            cars, short = hour_by(rule.terms, list(cars) + yard.batch(letter), yard.width)
            self.assertEqual(short > 0, place == len(row) - 1)
        return waited

    def test_several_rules(self):
        waits = []
        for yard, game in GAMES:
            if not game.holds:
                for text in RULES:
                    waits.append(self.check(yard, game, Rule.parse(text)))
        self.assertGreater(len(waits), 19)
        self.assertGreater(max(waits), 0)

    def test_the_survey_is_short_too(self):
        for text in RULES:
            rule = Rule.parse(text)
            survey = Survey(LOSING, rule)
            row = self.losing.beat(rule)
            self.assertGreater(survey.total(row), 0)
            self.assertEqual(survey.total(Row(list(row)[:-1])), 0)
            self.assertIs(survey.never_short, False)

    def test_unbeaten(self):
        seen = 0
        for _, game in GAMES:
            if game.holds:
                self.refuses(Unbeaten, game.beat, Rule([]))
                seen += 1
        self.assertGreater(seen, 20)


class Facts(GameTest):
    def test_the_width_1_holds(self):
        for yard, game in drawn_games(312, 40, width=1):
            self.assertIs(game.holds, True)
            self.assertIs(Survey(yard, Rule.parse("least left"), most=1000).never_short, True)

    def test_stays_of_at_most_3_hours_hold(self):
        for yard, game in drawn_games(313, 40, longest=3):
            self.assertIs(game.holds, True)
            self.assertEqual(least_spare(yard, Rule.parse("least slack, most want"), most=1000), 0)

    def test_a_survey_that_is_never_short_means_that_the_game_holds(self):
        draws = Draws(314)
        fine = 0
        for yard, game in GAMES:
            for _ in range(4):
                rule = draws.rule()
                try:
                    never_short = Survey(yard, rule, most=400).never_short
                except TooManyStates:
                    continue
                if never_short:
                    self.assertIs(game.holds, True)
                    fine += 1
        self.assertGreater(fine, 50)


if __name__ == "__main__":
    unittest.main()
