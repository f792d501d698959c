"""Points 9, 10 and 11 and the interface of onecable/rules.py."""

import unittest
from itertools import permutations, product

from onecable.errors import BadRule, CableError
from onecable.rules import Rule

# (stay, need, left, want): no two of its measures have the same size.
CAR = (12, 9, 7, 8)
MEASURES = {"stay": 12, "need": 9, "left": 7, "want": 8, "here": 5, "got": 1, "slack": -1}
CARS = [(stay, need, left, want) for stay in range(1, 5) for need in range(1, stay + 1)
        for left in range(1, stay + 1) for want in range(1, need + 1)]


class RuleTest(unittest.TestCase):
    def refuses(self, place, call, *arguments):
        with self.assertRaises(BadRule) as caught:
            call(*arguments)
        self.assertEqual(caught.exception.place, place)
        self.assertIsInstance(caught.exception, CableError)


class Making(RuleTest):
    def test_interface(self):
        self.assertEqual(Rule.__module__, "onecable.rules")
        for name in ("parse", "named", "order", "serve", "__call__", "__str__", "__len__", "__iter__",
                     "__contains__", "__add__", "__neg__", "__eq__"):
            self.assertIn(name, vars(Rule))
        self.assertIsInstance(vars(Rule)["parse"], classmethod)
        self.assertIsInstance(vars(Rule)["named"], classmethod)

    def test_lists_and_tuples(self):
        terms = (("least", "slack"), ("most", "want"))
        self.assertEqual(Rule(terms).terms, terms)
        self.assertEqual(Rule(list(terms)).terms, terms)
        self.assertEqual(Rule(terms=[]).terms, ())
        self.assertEqual(Rule(()).terms, ())

    def test_all_words_at_once(self):
        terms = tuple(("most", word) for word in MEASURES)
        self.assertEqual(Rule(terms).terms, terms)

    def test_refused_terms(self):
        good = ("least", "slack")
        for term in (("Least", "want"), ("", "want"), ("least", ""), ("least", "wants"), ("want", "least"),
                     ("least", " want"), ("least ", "want"), ("first", "come"), ("least", "come"), ("most", "LEFT")):
            with self.subTest(term):
                self.refuses(0, Rule, [term])
                self.refuses(1, Rule, (good, term, ("best", "need")))

    def test_a_word_twice(self):
        self.refuses(1, Rule, [("least", "got"), ("least", "got")])
        self.refuses(1, Rule, [("least", "got"), ("most", "got")])
        self.refuses(2, Rule, [("least", "got"), ("most", "left"), ("most", "got"), ("worst", "stay")])
        self.refuses(1, Rule, [("least", "got"), ("worst", "stay"), ("most", "got")])

    def test_argument_is_copied(self):
        terms = [("least", "slack"), ("most", "want")]
        rule = Rule(terms)
        self.assertEqual(terms, [("least", "slack"), ("most", "want")])
        terms.pop()
        terms[0] = ("most", "here")
        self.assertEqual(rule.terms, (("least", "slack"), ("most", "want")))

    def test_a_refused_argument_stays_as_it_is(self):
        terms = [("least", "slack"), ("most", "slack")]
        self.refuses(1, Rule, terms)
        self.assertEqual(terms, [("least", "slack"), ("most", "slack")])


class Numbers(RuleTest):
    def test_each_measure_with_each_side(self):
        for word, number in MEASURES.items():
            with self.subTest(word):
                self.assertEqual(Rule([("least", word)])(CAR), (number,))
                self.assertEqual(Rule([("most", word)])(CAR), (-number,))

    def test_one_number_for_each_term(self):
        rule = Rule([("most", "here"), ("least", "slack"), ("most", "stay")])
        self.assertEqual(rule(CAR), (-5, -1, -12))
        self.assertEqual(rule(car=CAR), (-5, -1, -12))
        self.assertEqual(Rule([])(CAR), ())

    def test_a_car_that_has_just_come(self):
        rule = Rule([("least", "here"), ("least", "got"), ("most", "slack")])
        self.assertEqual(rule((4, 1, 4, 1)), (0, 0, -3))


class Orders(RuleTest):
    def test_ascending(self):
        cars = [(4, 2, 3, 2), (2, 1, 2, 1), (4, 4, 4, 4), (4, 3, 1, 3)]
        self.assertEqual(Rule([("least", "left")]).order(cars), [3, 1, 0, 2])
        self.assertEqual(Rule([("most", "left")]).order(cars), [2, 0, 1, 3])
        self.assertEqual(Rule([("least", "slack")]).order(cars), [3, 2, 0, 1])

    def test_the_second_term_counts_among_equals(self):
        cars = [(2, 1, 2, 1), (4, 2, 3, 2), (2, 1, 2, 1), (3, 2, 2, 1)]
        self.assertEqual(Rule.parse("least slack, most want").order(cars), [1, 0, 2, 3])
        self.assertEqual(Rule.parse("most stay, least want").order(cars), [1, 3, 0, 2])

    def test_equal_cars_by_their_indexes(self):
        self.assertEqual(Rule.parse("least slack").order([(2, 1, 2, 1)] * 5), [0, 1, 2, 3, 4])
        self.assertEqual(Rule.parse("most slack").order([(2, 1, 2, 1)] * 5), [0, 1, 2, 3, 4])
        self.assertEqual(Rule([]).order([(4, 1, 4, 1), (1, 1, 1, 1), (3, 2, 3, 2)]), [0, 1, 2])

    def test_lists_and_tuples(self):
        cars = [(4, 2, 3, 2), (2, 1, 2, 1)]
        rule = Rule.parse("least stay")
        self.assertEqual(rule.order(cars), [1, 0])
        self.assertEqual(rule.order(tuple(cars)), [1, 0])
        self.assertEqual(rule.order(cars=()), [])
        self.assertEqual(rule.order([]), [])

    def test_as_sorting_says(self):
        words = list(MEASURES)
        cars = CARS + CARS[::-1]
        for first, second in permutations(words, 2):
            for sides in product(("least", "most"), repeat=2):
                rule = Rule([(sides[0], first), (sides[1], second)])
                expected = sorted(range(len(cars)), key=lambda index: rule(cars[index]))
                self.assertEqual(rule.order(cars), expected)

    def test_cars_stay_as_they_are(self):
        cars = [(4, 2, 3, 2), (2, 1, 2, 1)]
        rule = Rule.parse("least stay")
        rule.order(cars).append(7)
        rule.serve(cars, 2).append(7)
        self.assertEqual(cars, [(4, 2, 3, 2), (2, 1, 2, 1)])
        self.assertEqual(rule.order(cars), [1, 0])
        self.assertEqual(rule.serve(cars, 2), [0, 1])


class Serving(RuleTest):
    CARS = [(4, 2, 3, 2), (2, 1, 2, 1), (4, 4, 4, 4), (4, 3, 1, 3)]

    def test_each_width(self):
        rule = Rule.parse("least left")
        answers = [rule.serve(self.CARS, width) for width in range(7)]
        self.assertEqual(answers, [[], [3], [1, 3], [0, 1, 3], [0, 1, 2, 3], [0, 1, 2, 3], [0, 1, 2, 3]])

    def test_example(self):
        rule = Rule.parse("least slack, most want")
        self.assertEqual(rule.serve([(2, 1, 2, 1), (4, 2, 3, 2), (2, 1, 2, 1)], 2), [0, 1])

    def test_among_equals_the_first_ones(self):
        rule = Rule.parse("least want")
        self.assertEqual(rule.serve([(2, 1, 2, 1)] * 4, 2), [0, 1])
        self.assertEqual(rule.serve([(2, 2, 2, 2)] + [(2, 1, 2, 1)] * 3, 2), [1, 2])

    def test_lists_and_tuples(self):
        rule = Rule.parse("most left")
        self.assertEqual(rule.serve(tuple(self.CARS), 1), [2])
        self.assertIs(type(rule.serve(cars=tuple(self.CARS), width=3)), list)
        self.assertEqual([rule.serve([], 3), rule.serve((), 0)], [[], []])

    def test_first_come(self):
        self.assertEqual(Rule([]).serve(self.CARS, 3), [0, 1, 2])

    def test_the_first_of_the_order(self):
        for word, side in product(MEASURES, ("least", "most")):
            rule = Rule([(side, word)])
            for width in (0, 1, 5, len(CARS) - 1, len(CARS), len(CARS) + 1):
                self.assertEqual(rule.serve(CARS, width), sorted(rule.order(CARS)[:width]))


class Terms(RuleTest):
    RULE = Rule([("least", "slack"), ("most", "want")])

    def test_length_and_iteration(self):
        self.assertEqual([len(Rule([])), len(self.RULE)], [0, 2])
        self.assertEqual(list(self.RULE), [("least", "slack"), ("most", "want")])
        self.assertEqual(list(Rule([])), [])

    def test_words_in_it(self):
        self.assertIs("slack" in self.RULE, True)
        self.assertIs("want" in self.RULE, True)
        for word in ("need", "least", "most", "", "least slack", "sla"):
            self.assertIs(word in self.RULE, False)
        self.assertIs("slack" in Rule([]), False)

    def test_sum(self):
        other = Rule([("most", "slack"), ("least", "here"), ("least", "want"), ("most", "got")])
        both = self.RULE + other
        self.assertIsInstance(both, Rule)
        self.assertEqual(str(both), "least slack, most want, least here, most got")
        self.assertEqual(str(other + self.RULE), "most slack, least here, least want, most got")
        self.assertEqual([len(self.RULE), len(other)], [2, 4])

    def test_sum_with_no_terms(self):
        self.assertEqual((self.RULE + Rule([])).terms, self.RULE.terms)
        self.assertEqual((Rule([]) + self.RULE).terms, self.RULE.terms)
        self.assertEqual((Rule([]) + Rule([])).terms, ())

    def test_turned(self):
        turned = -self.RULE
        self.assertIsInstance(turned, Rule)
        self.assertEqual(turned.terms, (("most", "slack"), ("least", "want")))
        self.assertEqual((-turned).terms, self.RULE.terms)
        self.assertEqual((-Rule([])).terms, ())
        self.assertEqual(self.RULE.terms, (("least", "slack"), ("most", "want")))

    def test_equal(self):
        self.assertIs(self.RULE == Rule((("least", "slack"), ("most", "want"))), True)
        self.assertIs(Rule([]) == Rule(()), True)
        self.assertIs(self.RULE != Rule((("least", "slack"), ("most", "want"))), False)
        for terms in ([], [("least", "slack")], [("most", "want"), ("least", "slack")],
                      [("least", "slack"), ("least", "want")], [("least", "slack"), ("most", "need")],
                      [("least", "slack"), ("most", "want"), ("most", "need")]):
            self.assertIs(self.RULE == Rule(terms), False)
            self.assertIs(self.RULE != Rule(terms), True)


class WrittenForm(RuleTest):
    def test_forms(self):
        self.assertEqual(str(Rule([])), "first come")
        self.assertEqual(str(Rule([("least", "slack")])), "least slack")
        self.assertEqual(str(Rule([("least", "slack"), ("most", "here")])), "least slack, most here")

    def test_there_and_back(self):
        everything = [(("least", "most")[at % 2], word) for at, word in enumerate(MEASURES)]
        for many in range(len(everything) + 1):
            rule = Rule.parse(str(Rule(everything[:many])))
            self.assertIsInstance(rule, Rule)
            self.assertEqual(list(rule), everything[:many])

    def test_texts(self):
        self.assertEqual(Rule.parse("first come").terms, ())
        self.assertEqual(Rule.parse(text="most got, least stay").terms, (("most", "got"), ("least", "stay")))

    def test_wrong_parts(self):
        for text in ("", " ", "least", "slack", "least  slack", " least slack", "least slack ", "least slack,",
                     "least slack,most want", "leastslack", "Least slack", "least Slack", "first  come",
                     "first come ", "First come", "none", "least slack most", "slack least", "least,slack",
                     "least slack\n", ","):
            with self.subTest(text):
                self.refuses(0, Rule.parse, text)

    def test_wrong_parts_further_on(self):
        for text in ("least slack, ", "least slack, most", "least slack,  most want", "least slack, most want,",
                     "least slack, first come", "least slack, , most want", "least slack, least come, best want"):
            with self.subTest(text):
                self.refuses(1, Rule.parse, text)
        self.refuses(2, Rule.parse, "least slack, most want, ")
        self.refuses(0, Rule.parse, ", least slack")
        self.refuses(0, Rule.parse, "least slack , most want")
        self.refuses(0, Rule.parse, "least slack,, most want")
        self.refuses(0, Rule.parse, "first come, least slack")

    def test_repeated_words(self):
        self.refuses(1, Rule.parse, "least slack, least slack")
        self.refuses(1, Rule.parse, "least slack, most slack, worst want")
        self.refuses(2, Rule.parse, "least slack, most want, most slack")
        self.refuses(1, Rule.parse, "least slack, worst want, most slack")


class Names(RuleTest):
    def test_the_four(self):
        forms = {"equal": "least got", "first come": "first come", "least slack": "least slack",
                 "first leave": "least left"}
        for name, form in forms.items():
            self.assertIsInstance(Rule.named(name), Rule)
            self.assertEqual(str(Rule.named(name)), form)
        self.assertEqual(Rule.named(name="equal").terms, (("least", "got"),))
        self.assertEqual(Rule.named("first come").terms, ())
        self.assertEqual(Rule.named("least slack").terms, (("least", "slack"),))
        self.assertEqual(Rule.named("first leave").terms, (("least", "left"),))

    def test_other_names(self):
        for name in ("", "least left", "least got", "most slack", "Equal", "equal ", " equal", "first", "firstcome",
                     "first leave, equal", "least slack, most want", "first  come"):
            with self.subTest(name):
                self.refuses(0, Rule.named, name)


if __name__ == "__main__":
    unittest.main()
