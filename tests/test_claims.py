"""Points 15, 16 and 17 and the interface of onecable/claims.py."""

import unittest
from collections.abc import Iterator
from itertools import combinations, islice, product

from onecable.claims import Claims, fair_rows, next_claims, no_plan_at
from onecable.errors import BadClaims, BadRow, CableError
from onecable.kinds import Kind
from onecable.rows import Row
from onecable.yards import Yard, make_yard
from tests.draws import Draws

CARS = [(4, need, left, want) for need in range(1, 5) for left in range(1, 5) for want in range(1, need + 1)]

YARDS = [
    make_yard(1, Kind("p", 2, 1), Kind("q", 1, 1), early=["p", "q"], noon=("q",), late=["p"]),
    make_yard(1, Kind("p", 3, 1), Kind("q", 2, 2), a=["p", "p"], b=["q"], c=["p", "q"]),
    make_yard(2, Kind("p", 4, 2), Kind("q", 1, 1), a=["p", "p"], b=["q", "q", "p"], c=["q", "q", "q"]),
    make_yard(2, Kind("p", 3, 2), Kind("q", 4, 1), Kind("r", 2, 2), a=["p", "r"], b=["q", "q", "r"], c=["p"],
              d=["r", "r"]),
    make_yard(3, Kind("p", 4, 4), Kind("q", 4, 1), a=["p", "q", "q"], b=["p", "p"]),
    make_yard(1, Kind("q", 1, 1), a=["q"], b=["q", "q"]),
]


def hours_in(mask):
    return [hour for hour in range(4) if mask // 2 ** hour % 2 == 1]


def demand(car, mask):
    """Point 15, word for word."""
    _, _, left, want = car
    outside = sum(1 for hour in range(left) if hour not in hours_in(mask))
    return max(want - outside, 0)


def gets_one_more(car, cars, width, served, tried):
    """True if the car could be given a unit more, perhaps by moving other cars to other hours."""
    come, stay, _ = cars[car]
    for hour in range(come, come + stay):
        if hour in tried or car in served[hour]:
            continue
        tried.add(hour)
        if len(served[hour]) < width:
            served[hour].add(car)
            return True
        for other in sorted(served[hour]):
            if gets_one_more(other, cars, width, served, tried):
                served[hour].remove(other)
                served[hour].add(car)
                return True
    return False


def plan_serves(width, cars):
    """True if some plan serves all cars."""
    served = {hour: set() for come, stay, _ in cars for hour in range(come, come + stay)}
    return all(gets_one_more(car, cars, width, served, set())
               for car, (_, _, need) in enumerate(cars) for _ in range(need))


def ends(width, batches):
    """The cars (left, want) after the hours of the batches, in all ways of serving by which each can still get all."""
    found = {()}
    for batch in batches:
        after = set()
        for cars in found:
            there = list(cars) + [(left, want) for _, _, left, want in batch]
            for many in range(min(width, len(there)) + 1):
                for served in combinations(range(len(there)), many):
                    next_cars = [(left - 1, want - (index in served)) for index, (left, want) in enumerate(there)]
                    if all(want <= left for left, want in next_cars):
                        after.add(tuple(sorted(car for car in next_cars if car[1] > 0)))
        found = after
    return found


def least_claims(width, span, batches):
    """For each mask the least number of units still to be delivered in it, over all ways of serving."""
    tables = [[sum(demand((0, 0, left, want), mask) for left, want in cars) for mask in range(2 ** span)]
              for cars in ends(width, batches)]
    return tuple(min(column) for column in zip(*tables))


class ClaimsTest(unittest.TestCase):
    def refuses(self, call, *arguments):
        with self.assertRaises(BadClaims) as caught:
            call(*arguments)
        self.assertIsInstance(caught.exception, CableError)

    def refuses_row(self, place, call, *arguments):
        with self.assertRaises(BadRow) as caught:
            call(*arguments)
        self.assertEqual(caught.exception.place, place)


class Making(ClaimsTest):
    def test_interface(self):
        for thing in (Claims, next_claims, no_plan_at, fair_rows):
            self.assertEqual(thing.__module__, "onecable.claims")
        for name in ("none", "of", "span", "over", "fits", "__len__", "__iter__", "__getitem__", "__add__", "__eq__",
                     "__rshift__"):
            self.assertIn(name, vars(Claims))
        self.assertIsInstance(vars(Claims)["none"], classmethod)
        self.assertIsInstance(vars(Claims)["of"], classmethod)
        self.assertIsInstance(vars(Claims)["span"], property)

    def test_each_length(self):
        for span in range(1, 5):
            numbers = list(range(2 ** span))
            for table in (numbers, tuple(numbers)):
                claims = Claims(table)
                self.assertEqual(claims.table, tuple(numbers))
                self.assertIs(type(claims.table), tuple)
                self.assertEqual(claims.span, span)
        self.assertEqual(Claims(table=[5, 7]).table, (5, 7))

    def test_wrong_lengths(self):
        for many in (0, 1, 3, 5, 6, 7, 9, 12, 15, 17, 31, 32, 64):
            self.refuses(Claims, [0] * many)
            self.refuses(Claims, (1,) * many)

    def test_negative_numbers(self):
        for span in range(1, 5):
            for mask in range(2 ** span):
                table = [3] * 2 ** span
                table[mask] = -1
                self.refuses(Claims, table)
                self.refuses(Claims, tuple(table))
        self.refuses(Claims, [-10 ** 20, 1])
        self.assertEqual(Claims([0, 10 ** 20]).table, (0, 10 ** 20))

    def test_argument_is_copied(self):
        table = [0, 1, 2, 3]
        claims = Claims(table)
        self.assertEqual(table, [0, 1, 2, 3])
        table[0] = 7
        table.append(8)
        self.assertEqual(claims.table, (0, 1, 2, 3))

    def test_none(self):
        for span in range(1, 5):
            self.assertEqual(Claims.none(span).table, (0,) * 2 ** span)
            self.assertEqual(Claims.none(span=span).span, span)
        for span in (-1, 0, 5, 6):
            self.refuses(Claims.none, span)

    def test_of_one_car(self):
        for car in CARS:
            for span in range(car[2], 5):
                self.assertEqual(Claims.of(span, [car]).table, tuple(demand(car, mask) for mask in range(2 ** span)))

    def test_of_plain_examples(self):
        self.assertEqual(Claims.of(2, [(2, 1, 2, 1)]).table, (0, 0, 0, 1))
        self.assertEqual(Claims.of(2, [(1, 1, 1, 1)]).table, (0, 1, 0, 1))
        self.assertEqual(Claims.of(3, [(4, 3, 3, 2)]).table, (0, 0, 0, 1, 0, 1, 1, 2))
        self.assertEqual(Claims.of(3, [(4, 3, 2, 2)]).table, (0, 1, 1, 2, 0, 1, 1, 2))
        self.assertEqual(Claims.of(1, [(4, 3, 1, 3)]).table, (2, 3))

    def test_of_several_cars(self):
        draws = Draws(16)
        for _ in range(100):
            cars = draws.some_of(CARS, draws.number(0, 6))
            expected = tuple(sum(demand(car, mask) for car in cars) for mask in range(16))
            self.assertEqual(Claims.of(4, cars).table, expected)
            self.assertEqual(Claims.of(span=4, cars=tuple(cars)).table, expected)
        self.assertEqual(Claims.of(3, []).table, (0,) * 8)
        self.assertEqual(Claims.of(1, ()).table, (0, 0))

    def test_cars_stay_as_they_are(self):
        cars = [(2, 1, 2, 1), (1, 1, 1, 1)]
        claims = Claims.of(2, cars)
        self.assertEqual(cars, [(2, 1, 2, 1), (1, 1, 1, 1)])
        cars.clear()
        self.assertEqual(claims.table, (0, 1, 0, 2))


class Operators(ClaimsTest):
    def test_length_and_iteration(self):
        for span in range(1, 5):
            numbers = [mask * mask for mask in range(2 ** span)]
            claims = Claims(numbers)
            self.assertEqual(len(claims), 2 ** span)
            self.assertEqual(list(claims), numbers)
            self.assertEqual([claims[mask] for mask in range(2 ** span)], numbers)

    def test_no_such_mask(self):
        for span in range(1, 5):
            claims = Claims.none(span)
            for mask in (-1, -2 ** span, 2 ** span, 2 ** span + 1, 10 ** 20, -10 ** 20):
                self.refuses(lambda: claims[mask])

    def test_sum(self):
        first = Claims([0, 1, 2, 3])
        second = Claims((5, 0, 7, 10))
        both = first + second
        self.assertIsInstance(both, Claims)
        self.assertEqual(both.table, (5, 1, 9, 13))
        self.assertEqual([first.table, second.table], [(0, 1, 2, 3), (5, 0, 7, 10)])
        self.assertEqual((first + Claims.none(2)).table, first.table)

    def test_sum_of_unequal_spans(self):
        for first, second in product(range(1, 5), range(1, 5)):
            if first == second:
                self.assertEqual((Claims.none(first) + Claims.none(second)).span, first)
            else:
                self.refuses(lambda: Claims.none(first) + Claims.none(second))

    def test_equal(self):
        claims = Claims([0, 1, 2, 3])
        self.assertIs(claims == Claims((0, 1, 2, 3)), True)
        self.assertIs(claims != Claims((0, 1, 2, 3)), False)
        for table in ([0, 1, 2, 4], [1, 1, 2, 3], [0, 1], [0, 1, 2, 3, 0, 1, 2, 3], [3, 2, 1, 0]):
            self.assertIs(claims == Claims(table), False)
            self.assertIs(claims != Claims(table), True)
        self.assertIs(Claims.none(1) == Claims.none(2), False)

    def check_widths(self, claims):
        for width in range(5):
            over = [mask for mask in range(len(claims)) if claims[mask] > width * len(hours_in(mask))]
            self.assertEqual(claims.over(width), over[0] if over else None)
            self.assertIs(claims.fits(width), over == [])

    def test_over_and_fits(self):
        draws = Draws(160)
        for _ in range(300):
            span = draws.number(1, 4)
            self.check_widths(Claims([draws.number(0, 2) * len(hours_in(mask)) + draws.number(0, 1) * draws.number(0, 1)
                                      for mask in range(2 ** span)]))

    def test_over_plain_examples(self):
        claims = Claims([0, 1, 2, 2])
        self.assertEqual([claims.over(width) for width in (0, 1, 2, 3)], [1, 2, None, None])
        self.assertEqual([claims.fits(width=width) for width in (0, 1, 2)], [False, False, True])
        self.assertEqual(Claims([1, 0]).over(width=10 ** 20), 0)
        self.assertEqual([Claims.none(4).over(0), Claims.none(4).fits(0)], [None, True])
        self.assertEqual(Claims([0, 1, 1, 3]).over(1), 3)

    def test_one_hour_later(self):
        draws = Draws(161)
        for _ in range(300):
            span = draws.number(1, 4)
            claims = Claims([draws.number(0, 9) for _ in range(2 ** span)])
            for width in (0, 1, 2, 3, 15):
                later = claims >> width
                self.assertIsInstance(later, Claims)
                self.assertEqual(later.span, span)
                for mask in range(2 ** span):
                    low = (2 * mask) % 2 ** span
                    self.assertEqual(later[mask], max(claims[low], claims[low + 1] - width))

    def test_one_hour_later_plain_examples(self):
        claims = Claims([0, 1, 0, 2])
        self.assertEqual((claims >> 1).table, (0, 1, 0, 1))
        self.assertEqual((claims >> 0).table, (1, 2, 1, 2))
        self.assertEqual((claims >> 5).table, (0, 0, 0, 0))
        self.assertEqual((Claims([0, 3]) >> 1).table, (2, 2))
        self.assertEqual((Claims.none(4) >> 0).table, (0,) * 16)
        self.assertEqual(claims.table, (0, 1, 0, 2))


class Steps(ClaimsTest):
    def test_example(self):
        yard = make_yard(1, Kind("p", 2, 1), noon=["p", "p"])
        self.assertEqual(next_claims(yard, Claims.none(2), 1).table, (0, 1, 0, 1))

    def test_none(self):
        yard = make_yard(1, Kind("p", 2, 1), noon=["p", "p"])
        claims = next_claims(yard, Claims.none(2), 1)
        self.assertIsNone(next_claims(yard=yard, claims=claims, letter=1))
        self.assertEqual(next_claims(yard, claims, 0).table, (0, 0, 0, 0))
        self.assertEqual(claims.table, (0, 1, 0, 1))
        self.assertIsNone(next_claims(make_yard(1, Kind("q", 1, 1), a=["q", "q"]), Claims.none(1), 1))

    def test_against_the_words(self):
        for yard in YARDS:
            for letters in product(range(yard.letter_count), repeat=3):
                claims = Claims.none(yard.span)
                for letter in letters:
                    total = claims + Claims.of(yard.span, yard.batch(letter))
                    found = next_claims(yard, claims, letter)
                    if not total.fits(yard.width):
                        self.assertIsNone(found)
                        break
                    self.assertEqual(found, total >> yard.width)
                    claims = found

    def test_letters_that_the_yard_does_not_have(self):
        for yard in YARDS:
            for letter in (-1, yard.letter_count, 5, 10 ** 20):
                self.refuses_row(0, next_claims, yard, Claims.none(yard.span), letter)

    def test_least_numbers_of_units(self):
        for yard in YARDS:
            for letters in product(range(yard.letter_count), repeat=3):
                claims = Claims.none(yard.span)
                for letter in letters:
                    claims = None if claims is None else next_claims(yard, claims, letter)
                if claims is not None:
                    batches = [yard.batch(letter) for letter in letters]
                    self.assertEqual(claims.table, least_claims(yard.width, yard.span, batches))


class Rows(ClaimsTest):
    def test_no_plan_at(self):
        yard = make_yard(1, Kind("p", 2, 1), noon=["p", "p"])
        for letters, place in (([], 0), ([0], 1), ([1], 1), ([1, 1], 1), ([1, 0, 1, 0], 4), ([0, 1, 0, 1, 1, 1], 4),
                               ([0] * 2000, 2000), ([1, 0] * 1000, 2000), ([1, 0] * 900 + [1, 1], 1801)):
            self.assertEqual(no_plan_at(yard, Row(letters)), place)
        self.assertEqual(no_plan_at(yard=yard, row=Row([1, 1])), 1)

    def test_some_plan_serves_all_or_none_does(self):
        for yard in YARDS:
            for letters in product(range(yard.letter_count), repeat=4):
                place = no_plan_at(yard, Row(letters))
                self.assertTrue(plan_serves(yard.width, yard.day(Row(letters[:place]))))
                if place < 4:
                    self.assertFalse(plan_serves(yard.width, yard.day(Row(letters[:place + 1]))))

    def test_letters_that_the_yard_does_not_have(self):
        yard = make_yard(1, Kind("p", 2, 1), noon=["p", "p"])
        self.refuses_row(0, no_plan_at, yard, Row([2]))
        self.refuses_row(2, no_plan_at, yard, Row([1, 0, 4, 3]))
        self.refuses_row(3, no_plan_at, yard, Row([1, 1, 1, 2]))
        self.refuses_row(1999, no_plan_at, yard, Row([1] * 1999 + [2]))

    def test_fair_rows(self):
        for yard in YARDS:
            for hours in range(6):
                expected = [letters for letters in product(range(yard.letter_count), repeat=hours)
                            if no_plan_at(yard, Row(letters)) == hours]
                found = list(fair_rows(yard, hours))
                self.assertTrue(all(isinstance(row, Row) for row in found))
                self.assertEqual([tuple(row) for row in found], expected)
                self.assertTrue(all(first < second for first, second in zip(found, found[1:])))

    def test_no_hours(self):
        self.assertEqual([list(row) for row in fair_rows(YARDS[0], 0)], [[]])

    def test_one_by_one(self):
        rows = fair_rows(yard=YARDS[0], hours=2)
        self.assertIsInstance(rows, Iterator)
        self.assertEqual([list(next(rows)), list(next(rows)), list(next(rows))], [[0, 0], [0, 1], [0, 2]])
        other = fair_rows(YARDS[0], 2)
        self.assertEqual([list(row) for row in islice(other, 2)], [[0, 0], [0, 1]])
        self.assertEqual(list(next(rows)), [0, 3])
        self.assertEqual(len(list(rows)) + 4, len(list(fair_rows(YARDS[0], 2))))
        self.assertIsNone(next(rows, None))

    def test_one_by_one_without_the_others(self):
        # A yard in which each row is fair: so many rows of 60 hours could never be made at once.
        rows = fair_rows(make_yard(3, Kind("q", 1, 1), a=["q"], b=["q"], c=["q"], d=["q"]), 60)
        self.assertEqual([str(next(rows))[-3:] for _ in range(6)], ["0 0", "0 1", "0 2", "0 3", "0 4", "1 0"])

    def test_least_rows_come_first(self):
        rows = list(fair_rows(Yard(3, [Kind("q", 1, 1)], [(name, ["q"]) for name in "abcd"]), 5))
        self.assertEqual(len(rows), 5 ** 5)
        self.assertEqual([str(rows[0]), str(rows[1]), str(rows[5]), str(rows[-1])],
                         ["0 0 0 0 0", "0 0 0 0 1", "0 0 0 1 0", "4 4 4 4 4"])


if __name__ == "__main__":
    unittest.main()
