"""Points 34 and 35 and the interface of onecable/desks.py."""

import unittest

from onecable.claims import Claims
from onecable.days import demand
from onecable.desks import Desk
from onecable.errors import (BadPlan, BadRule, CableError, NothingToRedo, NothingToUndo, Overloaded, Refused,
                             UnknownName)
from onecable.kinds import Kind
from onecable.rules import Rule
from onecable.yards import make_yard
from tests.draws import Draws
from tests.models import served_by

EXAMPLE = make_yard(1, Kind("p", 2, 1), Kind("q", 1, 1), early=["p", "q"])

LARGE = make_yard(2, Kind("a", 4, 2), Kind("b", 2, 2), Kind("c", 1, 1), Kind("d", 3, 1), x=["a"])

TEXTS = ["first come", "least left", "least slack", "most slack", "least got", "most want, least stay",
         "least slack, most want", "least need, most here"]


def gets_one_more(car, cars, width, served, tried):
    come, stay = cars[car][:2]
    for hour in range(come, come + stay):
        if hour in tried or car in served[hour]:
            continue
        tried.add(hour)
        if len(served[hour]) < width:
            served[hour].add(car)
            return True
        for other in sorted(served[hour]):
            if gets_one_more(other, cars, width, served, tried):
                served[hour].remove(other)
                served[hour].add(car)
                return True
    return False


def plan_serves(width, cars):
    """True if some plan serves all cars."""
    served = {hour: set() for come, stay, _ in cars for hour in range(come, come + stay)}
    return all(gets_one_more(car, cars, width, served, set())
               for car, (_, _, need) in enumerate(cars) for _ in range(need))


class Model:
    """A desk that does all deeds that count from the first one on each time it is read."""

    def __init__(self, yard, text):
        self.yard = yard
        self.text = text
        self.deeds = []
        self.undone = []

    def do(self, *deeds):
        self.deeds.append(deeds)
        self.undone = []

    def undo(self):
        self.undone.append(self.deeds.pop())

    def redo(self):
        self.deeds.append(self.undone.pop())

    def read(self):
        """What the desk shows: hour, rule, shortage, cars, open cars and hours."""
        hour, text, shortage, cars, hours = 0, self.text, 0, [], []
        for deed in [deed for deeds in self.deeds for deed in deeds]:
            if deed[0] == "admit":
                kind = self.yard.kind(deed[1])
                cars.append([hour, kind.stay, kind.need, 0])
            elif deed[0] == "rule":
                text = deed[1]
            else:
                there = self.waiting(cars, hour)
                chosen = served_by(Rule.parse(text).terms, [self.open_car(cars[number], hour) for number in there],
                                   self.yard.width)
                served = [there[index] for index in chosen]
                for number in served:
                    cars[number][3] += 1
                short = [number for number, (come, stay, need, got) in enumerate(cars)
                         if come + stay == hour + 1 and got < need]
                shortage += sum(cars[number][2] - cars[number][3] for number in short)
                hours.append((hour, tuple(served), tuple(short)))
                hour += 1
        return hour, text, shortage, [tuple(car) for car in cars], self.waiting(cars, hour), hours

    def waiting(self, cars, hour):
        return [number for number, (come, stay, need, got) in enumerate(cars) if come + stay > hour and got < need]

    def open_car(self, car, hour):
        come, stay, need, got = car
        return (stay, need, come + stay - hour, need - got)

    def claims(self):
        """The claims by the words of points 16 and 17: those of the cars of each hour, and one hour more."""
        hour, _, _, cars, _, _ = self.read()
        claims = Claims.none(self.yard.span)
        for now in range(hour + 1):
            came = [(stay, need, stay, need) for come, stay, need, _ in cars if come == now]
            claims = claims + Claims.of(self.yard.span, came)
            if now < hour:
                claims = claims >> self.yard.width
        return claims


def shown(desk):
    return (desk.hour, desk.rule, desk.shortage, [desk[number] for number in range(len(desk))], desk.waiting(),
            list(desk))


class DeskTest(unittest.TestCase):
    def refuses(self, error, call, *arguments):
        with self.assertRaises(error) as caught:
            call(*arguments)
        self.assertIsInstance(caught.exception, CableError)
        return caught.exception

    def assertLike(self, desk, model):
        self.assertEqual(shown(desk), model.read())
        self.assertEqual(desk.claims, model.claims())

    def assertOverloaded(self, desk, yard, name, hours):
        """The hours of the error are as point 34 says."""
        kind = yard.kind(name)
        self.assertIs(type(hours), tuple)
        self.assertEqual(list(hours), sorted(set(hours)))
        cars = [car[:3] for car in shown(desk)[3]] + [(desk.hour, kind.stay, kind.need)]
        self.assertGreater(demand(cars, list(hours)), yard.width * len(hours))


class Interface(DeskTest):
    def test_methods_stand_in_the_class(self):
        self.assertEqual(Desk.__module__, "onecable.desks")
        for name in ("__init__", "admit", "pass_hour", "change", "undo", "redo", "all_or_none", "would", "waiting",
                     "hour", "rule", "shortage", "claims", "__getitem__", "__len__", "__iter__"):
            self.assertIn(name, vars(Desk))
        for name in ("hour", "rule", "shortage", "claims"):
            self.assertIsInstance(vars(Desk)[name], property)

    def test_the_example_of_the_interface(self):
        desk = Desk(EXAMPLE, "least left")
        self.assertEqual(desk.all_or_none(("admit", "p"), ("admit", "q"), ("pass",), ("pass",)), [0, 1, (1,), (0,)])

    def test_keywords(self):
        desk = Desk(yard=EXAMPLE, text="least left")
        self.assertEqual(desk.admit(name="p"), 0)
        self.assertIsNone(desk.change(text="first come"))

    def test_wrong_rules(self):
        for text, place in (("", 0), ("least", 0), ("least left, most left", 1), ("first come, least left", 0)):
            self.assertEqual(self.refuses(BadRule, Desk, EXAMPLE, text).place, place)

    def test_a_new_desk(self):
        desk = Desk(EXAMPLE, "first come")
        self.assertEqual(shown(desk), (0, "first come", 0, [], [], []))
        self.assertEqual(desk.claims, Claims.none(2))
        self.assertEqual(len(desk), 0)


class Admit(DeskTest):
    def test_numbers(self):
        desk = Desk(LARGE, "first come")
        self.assertEqual([desk.admit("a"), desk.admit("d"), desk.pass_hour(), desk.admit("a")], [0, 1, (0, 1), 2])
        self.assertEqual([desk[0], desk[1], desk[2]], [(0, 4, 2, 1), (0, 3, 1, 1), (1, 4, 2, 0)])

    def test_unknown_kind(self):
        desk = Desk(EXAMPLE, "first come")
        for name in ("r", "", "P", "early", "pp"):
            self.assertEqual(self.refuses(UnknownName, desk.admit, name).name, name)
        self.assertEqual(shown(desk), (0, "first come", 0, [], [], []))

    def test_kinds_that_are_in_no_batch(self):
        desk = Desk(LARGE, "first come")
        self.assertEqual([desk.admit("b"), desk.admit("c")], [0, 1])

    def test_too_many_cars(self):
        desk = Desk(EXAMPLE, "first come")
        desk.admit("q")
        wrong = self.refuses(Overloaded, desk.admit, "q")
        self.assertEqual(wrong.hours, (0,))
        self.assertEqual(desk.admit("p"), 1)
        wrong = self.refuses(Overloaded, desk.admit, "p")
        self.assertEqual(wrong.hours, (0, 1))
        self.assertEqual(len(desk), 2)

    def test_what_was_served_in_fact_does_not_matter(self):
        # The desk serves car p in hour 0, and q leaves short; a plan would have served q, and p in hour 1.
        desk = Desk(EXAMPLE, "first come")
        desk.all_or_none(("admit", "p"), ("admit", "q"), ("pass",))
        self.assertEqual([desk.shortage, desk.waiting()], [1, []])
        wrong = self.refuses(Overloaded, desk.admit, "q")
        self.assertEqual(wrong.hours, (0, 1))
        self.assertOverloaded(desk, EXAMPLE, "q", wrong.hours)

    def test_hours_that_passed_long_ago(self):
        yard = make_yard(1, Kind("p", 2, 1), Kind("q", 1, 1), x=["p"])
        desk = Desk(yard, "most left")
        desk.all_or_none(("admit", "p"), ("admit", "q"))
        for _ in range(20):
            desk.pass_hour()
            desk.admit("p")
        wrong = self.refuses(Overloaded, desk.admit, "q")
        self.assertEqual(wrong.hours, tuple(range(21)))
        self.assertOverloaded(desk, yard, "q", wrong.hours)

    def test_more_cars_and_hours_than_a_day_has(self):
        yard = make_yard(1, Kind("q", 1, 1), x=["q"])
        desk = Desk(yard, "first come")
        for hour in range(95):
            self.assertEqual(desk.admit("q"), hour)
            self.assertEqual(self.refuses(Overloaded, desk.admit, "q").hours, (hour,))
            self.assertEqual(desk.pass_hour(), (hour,))
        self.assertEqual([desk.hour, len(desk), desk.shortage, desk[94]], [95, 95, 0, (94, 1, 1, 1)])

    def test_against_a_matching(self):
        draws = Draws(34)
        refused = admitted = old = 0
        for _ in range(60):
            yard = draws.yard(draws.number(1, 3))
            desk = Desk(yard, draws.one_of(TEXTS))
            for _ in range(draws.number(5, 25)):
                if draws.number(0, 2) == 0:
                    desk.pass_hour()
                    continue
                kind = draws.one_of(yard.kinds)
                cars = [car[:3] for car in shown(desk)[3]] + [(desk.hour, kind.stay, kind.need)]
                before = shown(desk), desk.claims
                if plan_serves(yard.width, cars):
                    self.assertEqual(desk.admit(kind.name), len(cars) - 1)
                    admitted += 1
                else:
                    wrong = self.refuses(Overloaded, desk.admit, kind.name)
                    self.assertOverloaded(desk, yard, kind.name, wrong.hours)
                    self.assertEqual((shown(desk), desk.claims), before)
                    refused += 1
                    old += wrong.hours[0] < desk.hour
        self.assertTrue(min(refused, admitted) > 100 and old > 10)


class PassHour(DeskTest):
    def test_nobody_is_there(self):
        desk = Desk(EXAMPLE, "first come")
        self.assertEqual([desk.pass_hour(), desk.pass_hour()], [(), ()])
        self.assertEqual(shown(desk), (2, "first come", 0, [], [], [(0, (), ()), (1, (), ())]))

    def test_more_cars_than_the_width(self):
        desk = Desk(LARGE, "most stay")
        desk.all_or_none(*[("admit", name) for name in "dadcd"])
        self.assertEqual(desk.pass_hour(), (0, 1))
        self.assertEqual(desk.shortage, 1)
        self.assertEqual(desk.waiting(), [1, 2, 4])
        self.assertEqual(desk.pass_hour(), (1, 2))
        self.assertEqual(desk.pass_hour(), (4,))
        self.assertEqual(list(desk), [(0, (0, 1), (3,)), (1, (1, 2), ()), (2, (4,), ())])
        self.assertEqual([desk[number] for number in range(len(desk))],
                         [(0, 3, 1, 1), (0, 4, 2, 2), (0, 3, 1, 1), (0, 1, 1, 0), (0, 3, 1, 1)])

    def test_types(self):
        desk = Desk(EXAMPLE, "first come")
        desk.admit("p")
        served = desk.pass_hour()
        self.assertIs(type(served), tuple)
        [(hour, numbers, short)] = list(desk)
        self.assertEqual([type(hour), type(numbers), type(short), type(desk.waiting())], [int, tuple, tuple, list])
        self.assertEqual([type(desk[0]), type(desk.rule), type(desk.claims)], [tuple, str, Claims])

    def test_equal_cars_in_the_order_of_their_numbers(self):
        desk = Desk(LARGE, "least left")
        desk.all_or_none(("admit", "d"), ("admit", "a"), ("pass",), ("admit", "b"), ("admit", "d"))
        self.assertEqual(desk.waiting(), [1, 2, 3])
        # Of cars 1 and 3, which have three hours left, the first one is served.
        self.assertEqual(desk.pass_hour(), (1, 2))


class Change(DeskTest):
    def test_another_rule(self):
        desk = Desk(EXAMPLE, "first come")
        desk.all_or_none(("admit", "p"), ("admit", "q"))
        self.assertIsNone(desk.change("least left"))
        self.assertEqual(desk.rule, "least left")
        self.assertEqual(desk.pass_hour(), (1,))

    def test_the_same_rule_is_a_deed(self):
        desk = Desk(EXAMPLE, "first come")
        desk.admit("p")
        desk.change("first come")
        desk.undo()
        self.assertEqual(len(desk), 1)
        desk.undo()
        self.assertEqual(len(desk), 0)
        desk.redo()
        desk.change("first come")
        self.refuses(NothingToRedo, desk.redo)

    def test_a_wrong_text(self):
        desk = Desk(EXAMPLE, "least left")
        desk.admit("p")
        desk.undo()
        for text, place in (("", 0), ("least left, most", 1), ("equal", 0), ("least left,most got", 0)):
            self.assertEqual(self.refuses(BadRule, desk.change, text).place, place)
        self.assertEqual(desk.rule, "least left")
        desk.redo()
        self.assertEqual(len(desk), 1)


class UndoAndRedo(DeskTest):
    def test_past_both_ends(self):
        desk = Desk(EXAMPLE, "first come")
        self.refuses(NothingToUndo, desk.undo)
        self.refuses(NothingToRedo, desk.redo)
        desk.admit("p")
        self.refuses(NothingToRedo, desk.redo)
        self.assertIsNone(desk.undo())
        self.refuses(NothingToUndo, desk.undo)
        self.assertIsNone(desk.redo())
        self.refuses(NothingToRedo, desk.redo)
        self.assertEqual(shown(desk), (0, "first come", 0, [(0, 2, 1, 0)], [0], []))

    def test_every_kind_of_deed(self):
        desk = Desk(EXAMPLE, "first come")
        views = [(shown(desk), desk.claims)]
        for call, arguments in ((desk.admit, ["p"]), (desk.admit, ["q"]), (desk.change, ["least left"]),
                                (desk.pass_hour, []), (desk.all_or_none, [("pass",), ("admit", "q"), ("pass",)]),
                                (desk.pass_hour, [])):
            call(*arguments)
            views.append((shown(desk), desk.claims))
        for _ in range(2):
            for view in views[-2::-1]:
                desk.undo()
                self.assertEqual((shown(desk), desk.claims), view)
            self.refuses(NothingToUndo, desk.undo)
            for view in views[1:]:
                desk.redo()
                self.assertEqual((shown(desk), desk.claims), view)
            self.refuses(NothingToRedo, desk.redo)

    def test_a_new_deed_empties_what_can_be_redone(self):
        for call, arguments in ((Desk.admit, ["p"]), (Desk.pass_hour, []), (Desk.change, ["least got"]),
                                (Desk.all_or_none, [("pass",)])):
            desk = Desk(EXAMPLE, "first come")
            desk.admit("q")
            desk.pass_hour()
            desk.undo()
            desk.undo()
            call(desk, *arguments)
            self.refuses(NothingToRedo, desk.redo)
            desk.undo()
            self.assertEqual(shown(desk), (0, "first come", 0, [], [], []))
            self.refuses(NothingToUndo, desk.undo)

    def test_a_refused_deed_leaves_what_can_be_redone(self):
        desk = Desk(EXAMPLE, "first come")
        desk.admit("q")
        desk.pass_hour()
        desk.undo()
        self.refuses(Overloaded, desk.admit, "q")
        self.refuses(UnknownName, desk.admit, "z")
        self.refuses(BadRule, desk.change, "most")
        self.refuses(Refused, desk.all_or_none, ("pass",), ("admit", "z"))
        desk.redo()
        self.assertEqual(list(desk), [(0, (0,), ())])
        self.refuses(NothingToRedo, desk.redo)


class AllOrNone(DeskTest):
    def test_no_deeds(self):
        desk = Desk(EXAMPLE, "first come")
        self.assertEqual(desk.all_or_none(), [])
        self.refuses(NothingToUndo, desk.undo)
        desk.admit("p")
        desk.undo()
        self.assertEqual(desk.all_or_none(), [])
        desk.redo()
        self.assertEqual(len(desk), 1)

    def test_one_deed_in_the_end(self):
        desk = Desk(EXAMPLE, "first come")
        self.assertEqual(desk.all_or_none(("admit", "p"), ("rule", "least got"), ("pass",), ("admit", "q")),
                         [0, None, (0,), 1])
        self.assertEqual([desk.rule, desk.hour, len(desk)], ["least got", 1, 2])
        desk.undo()
        self.assertEqual(shown(desk), (0, "first come", 0, [], [], []))
        self.refuses(NothingToUndo, desk.undo)
        desk.redo()
        self.assertEqual([desk.rule, desk.hour, len(desk)], ["least got", 1, 2])

    def test_the_later_deeds_see_the_earlier_ones(self):
        desk = Desk(EXAMPLE, "first come")
        self.assertEqual(self.refuses(Refused, desk.all_or_none, ("admit", "q"), ("admit", "q")).place, 1)
        self.assertEqual(desk.all_or_none(("admit", "q"), ("pass",), ("admit", "q")), [0, (0,), 1])

    def test_a_refused_deed_at_each_place(self):
        right = [("admit", "p"), ("pass",), ("rule", "least left"), ("admit", "p"), ("pass",)]
        wrong = [("admit", "z"), ("rule", "left"), ("pass", 1), ()]
        for place in range(len(right) + 1):
            for deed in wrong:
                desk = Desk(EXAMPLE, "first come")
                desk.admit("p")
                desk.pass_hour()
                desk.undo()
                before = shown(desk), desk.claims
                deeds = right[:place] + [deed] + right[place:] + wrong
                self.assertEqual(self.refuses(Refused, desk.all_or_none, *deeds).place, place)
                self.assertEqual((shown(desk), desk.claims), before)
                desk.redo()
                self.assertEqual(desk.hour, 1)
                desk.undo()
                desk.undo()
                self.refuses(NothingToUndo, desk.undo)

    def test_tuples_of_other_forms(self):
        desk = Desk(EXAMPLE, "first come")
        for deed in ((), ("admit",), ("admit", "p", "q"), ("pass", "p"), ("rule",), ("rule", "first come", 1),
                     ("undo",), ("redo",), ("admit", 1), ("rule", None), ("admit", ("p",)), ("rule", ["first come"]),
                     (None,), (0, "p"), (("pass",),), ("change", "first come"), ("pass_hour",), ("Pass",), ("p",),
                     ("admit", ""), ("rule", ""), ("would", "p"), (["pass"],), ([], "p"), ({}, {})):
            self.assertEqual(self.refuses(Refused, desk.all_or_none, deed).place, 0)
            self.assertEqual(self.refuses(Refused, desk.would, ("pass",), deed, deed).place, 1)
        self.assertEqual(shown(desk), (0, "first come", 0, [], [], []))
        self.refuses(NothingToUndo, desk.undo)


class Would(DeskTest):
    def test_returns_and_raises_the_same(self):
        draws = Draws(341)
        raised = 0
        for _ in range(80):
            yard = draws.yard(draws.number(1, 2))
            desk = Desk(yard, draws.one_of(TEXTS))
            for _ in range(draws.number(0, 4)):
                desk.all_or_none(*drawn_deeds(draws, yard, safe=True))
            for _ in range(draws.number(0, 2)):
                if desk_can_undo(desk):
                    desk.undo()
            deeds = drawn_deeds(draws, yard)
            before = shown(desk), desk.claims, history(desk)
            try:
                returned = desk.would(*deeds)
            except Refused as wrong:
                self.assertEqual(self.refuses(Refused, desk.all_or_none, *deeds).place, wrong.place)
                raised += 1
            else:
                self.assertEqual((shown(desk), desk.claims, history(desk)), before)
                self.assertEqual(desk.all_or_none(*deeds), returned)
                continue
            self.assertEqual((shown(desk), desk.claims, history(desk)), before)
        self.assertTrue(10 < raised < 70)

    def test_no_deeds(self):
        desk = Desk(EXAMPLE, "first come")
        self.assertEqual(desk.would(), [])
        self.refuses(NothingToUndo, desk.undo)

    def test_what_can_be_redone_stays(self):
        desk = Desk(EXAMPLE, "first come")
        desk.admit("p")
        desk.undo()
        self.assertEqual(desk.would(("admit", "q"), ("pass",), ("rule", "least left")), [0, (0,), None])
        self.refuses(Refused, desk.would, ("admit", "q"), ("admit", "q"))
        self.refuses(NothingToUndo, desk.undo)
        desk.redo()
        self.assertEqual(shown(desk), (0, "first come", 0, [(0, 2, 1, 0)], [0], []))


def drawn_deeds(draws, yard, safe=False):
    deeds = []
    for _ in range(draws.number(0, 4)):
        word = draws.one_of(["pass", "rule"] + ([] if safe else ["admit", "admit", "admit"]))
        more = {"pass": [], "rule": [draws.one_of(TEXTS)], "admit": [draws.one_of(yard.kinds).name]}[word]
        deeds.append((word, *more))
    return deeds


def desk_can_undo(desk):
    try:
        desk.undo()
    except NothingToUndo:
        return False
    desk.redo()
    return True


def history(desk):
    """All that the desk shows on the way through what can be undone and what can be redone; it ends as it was."""
    views, undone, redone = [], 0, 0
    while desk_can_undo(desk):
        desk.undo()
        undone += 1
        views.append(shown(desk))
    while True:
        try:
            desk.redo()
        except NothingToRedo:
            break
        redone += 1
        views.append(shown(desk))
    for _ in range(redone - undone):
        desk.undo()
    return views


class Reading(DeskTest):
    def test_wrong_numbers(self):
        desk = Desk(EXAMPLE, "first come")
        for number in (-1, 0, 1):
            self.assertEqual(self.refuses(BadPlan, desk.__getitem__, number).part, "car")
        desk.admit("p")
        self.assertEqual(desk[0], (0, 2, 1, 0))
        for number in (-1, 1, 60, 10 ** 9):
            self.assertEqual(self.refuses(BadPlan, desk.__getitem__, number).part, "car")

    def test_claims(self):
        desk = Desk(EXAMPLE, "first come")
        desk.admit("p")
        self.assertEqual(desk.claims.table, (0, 0, 0, 1))
        desk.admit("q")
        self.assertEqual(desk.claims.table, (0, 1, 0, 2))
        desk.pass_hour()
        self.assertEqual(desk.claims.table, (0, 1, 0, 1))
        desk.pass_hour()
        self.assertEqual(desk.claims, Claims.none(2))

    def test_lists_are_new(self):
        desk = Desk(EXAMPLE, "first come")
        deeds = [("admit", "p"), ("pass",)]
        desk.all_or_none(*deeds).clear()
        deeds.clear()
        desk.waiting().append(7)
        self.assertEqual(shown(desk), (1, "first come", 0, [(0, 2, 1, 1)], [], [(0, (0,), ())]))
        desk.admit("q")
        waiting = desk.waiting()
        waiting.clear()
        self.assertEqual(desk.waiting(), [1])

    def test_desks_are_independent(self):
        first, second = Desk(EXAMPLE, "first come"), Desk(EXAMPLE, "first come")
        first.admit("p")
        self.assertEqual([len(first), len(second)], [1, 0])
        self.refuses(NothingToUndo, second.undo)


class ManyDeeds(DeskTest):
    def test_two_hundred_deeds_like_the_model(self):
        draws = Draws(342)
        for _ in range(6):
            yard = draws.yard(draws.number(1, 3))
            text = draws.one_of(TEXTS)
            desk, model = Desk(yard, text), Model(yard, text)
            for _ in range(200):
                self.one_deed(draws, yard, desk, model)
            self.assertLike(desk, model)

    def one_deed(self, draws, yard, desk, model):
        """A drawn deed on both, and a look at both."""
        word = draws.one_of(["admit", "admit", "admit", "pass", "pass", "rule", "undo", "redo", "all", "would"])
        if word == "undo":
            if model.deeds:
                model.undo()
                desk.undo()
            else:
                self.refuses(NothingToUndo, desk.undo)
        elif word == "redo":
            if model.undone:
                model.redo()
                desk.redo()
            else:
                self.refuses(NothingToRedo, desk.redo)
        elif word in ("all", "would"):
            deeds = drawn_deeds(draws, yard)
            try:
                getattr(desk, "all_or_none" if word == "all" else word)(*deeds)
            except Refused:
                pass
            else:
                if deeds and word == "all":
                    model.do(*deeds)
        elif word == "admit":
            name = draws.one_of(yard.kinds).name
            try:
                desk.admit(name)
            except Overloaded:
                pass
            else:
                model.do(("admit", name))
        elif word == "rule":
            text = draws.one_of(TEXTS)
            desk.change(text)
            model.do(("rule", text))
        else:
            desk.pass_hour()
            model.do(("pass",))
        self.assertLike(desk, model)

    def test_two_hundred_deeds_back_and_forth(self):
        desk = Desk(LARGE, "least slack")
        for number in range(100):
            desk.admit("d")
            desk.pass_hour()
        view = shown(desk)
        for _ in range(200):
            desk.undo()
        self.refuses(NothingToUndo, desk.undo)
        self.assertEqual(shown(desk), (0, "least slack", 0, [], [], []))
        for _ in range(200):
            desk.redo()
        self.assertEqual(shown(desk), view)


if __name__ == "__main__":
    unittest.main()
