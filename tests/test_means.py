"""Point 25 and the interface of onecable/means.py."""

import unittest
from copy import deepcopy
from fractions import Fraction

from onecable.means import find_ring, greatest_mean, worths
from onecable.ratios import Ratio
from tests.draws import Draws
from tests.models import all_rings, greatest_mean_by_walks, is_simple_ring, longest_walks, ring_mean


def drawn_graph(draws, most_nodes, low, high, most_moves=5):
    """A graph in which each node can be reached from node 0, with None at some places."""
    many = draws.number(1, most_nodes)
    graph = [[] for _ in range(many)]
    for node in range(1, many):
        free = [before for before in range(node) if len(graph[before]) < most_moves]
        graph[draws.one_of(free)].append((node, draws.number(low, high)))
    for entry in graph:
        for _ in range(draws.number(0, most_moves - len(entry))):
            move = None if draws.number(0, 3) == 0 else (draws.number(0, many - 1), draws.number(low, high))
            entry.insert(draws.number(0, len(entry)), move)
        if all(move is None for move in entry):
            entry[-1:] = [(draws.number(0, many - 1), draws.number(low, high))]
    return graph


def drawn_graphs():
    draws = Draws(250)
    limits = [(-40, 40), (-40, -1), (0, 0), (0, 2), (-1, 1), (1, 40), (-2, 0), (40, 40), (-40, -40)]
    return [drawn_graph(draws, 5, low, high) for low, high in limits for _ in range(40)]


class MeansTest(unittest.TestCase):
    GRAPHS = drawn_graphs()

    def assertMean(self, graph, num, den):
        mean = greatest_mean(graph)
        self.assertIs(type(mean), Ratio)
        self.assertEqual((mean.num, mean.den), (num, den))

    def assertRing(self, graph, mean, found):
        self.assertEqual([type(found), type(found[0]), type(found[1])], [tuple, int, list])
        self.assertTrue(is_simple_ring(graph, found))
        self.assertEqual(ring_mean(graph, found), Fraction(mean.num, mean.den))


class Interface(MeansTest):
    def test_defined_here(self):
        for function in (greatest_mean, worths, find_ring):
            self.assertEqual(function.__module__, "onecable.means")

    def test_keywords(self):
        graph = [[(0, 3)]]
        mean = greatest_mean(graph=graph)
        self.assertEqual(str(mean), "3")
        self.assertEqual(worths(graph=graph, mean=mean), [0])
        self.assertEqual(find_ring(graph=graph, mean=mean), (0, [0]))


class GreatestMean(MeansTest):
    def test_one_node(self):
        self.assertMean([[(0, 0)]], 0, 1)
        self.assertMean([[(0, -40)]], -40, 1)
        self.assertMean([[None, (0, 7), None]], 7, 1)
        self.assertMean([[(0, 3), (0, -5), (0, 9), (0, 9), (0, 8)]], 9, 1)

    def test_ring_of_several_moves(self):
        self.assertMean([[(1, 3)], [(2, -1)], [(0, 2)]], 4, 3)
        self.assertMean([[(1, 3)], [(0, 1)]], 2, 1)
        self.assertMean([[(1, -3)], [(0, -2)]], -5, 2)
        self.assertMean([[(1, 5)], [(0, -5)]], 0, 1)

    def test_lowest_terms(self):
        self.assertMean([[(1, 1)], [(2, 0)], [(3, 1)], [(0, 0)]], 1, 2)

    def test_several_moves_between_two_nodes(self):
        self.assertMean([[(1, 1), (1, 4), (1, 2)], [None, (0, -1), (0, 0)]], 2, 1)

    def test_a_ring_that_cannot_be_left_or_cannot_be_come_back_to(self):
        self.assertMean([[(0, 1), (1, 40)], [(1, 0)]], 1, 1)
        self.assertMean([[(1, -40)], [(1, 2)]], 2, 1)

    def test_two_rings_with_the_same_mean(self):
        self.assertMean([[(0, 2), (1, 3)], [(0, 1)]], 2, 1)

    def test_a_short_ring_beside_a_longer_heavier_one(self):
        self.assertMean([[(0, 3), (1, 4)], [(2, 4)], [(0, 0)]], 3, 1)

    def test_against_all_rings(self):
        for graph in self.GRAPHS:
            best = max(ring_mean(graph, ring) for ring in all_rings(graph))
            self.assertMean(graph, best.numerator, best.denominator)

    def test_larger_graphs(self):
        draws = Draws(251)
        for many in (20, 30, 40):
            for low, high in ((-40, 40), (-1, 1), (0, 3)):
                graph = drawn_graph(draws, many, low, high)
                best = greatest_mean_by_walks(graph)
                self.assertMean(graph, best.numerator, best.denominator)

    def test_a_thousand_nodes(self):
        forward = [[((node + 1) % 1000, 0)] for node in range(1000)]
        self.assertMean(forward, 0, 1)
        forward[500] = [None, (501, 1)]
        self.assertMean(forward, 1, 1000)
        backward = [[((node - 1) % 1000, 7 if node == 3 else -2)] for node in range(1000)]
        self.assertMean(backward, 7 - 999 * 2, 1000)
        draws = Draws(252)
        graph = drawn_graph(draws, 1000, -40, 40)
        while len(graph) < 700:
            graph = drawn_graph(draws, 1000, -40, 40)
        mean = greatest_mean(graph)
        self.assertRing(graph, mean, find_ring(graph, mean))
        self.assertEqual(worths(graph, mean), longest_walks(graph, mean.num, mean.den))


class Worths(MeansTest):
    def test_examples(self):
        self.assertEqual(worths([[(0, 0), (1, 5)], [(1, -1)]], Ratio(0, 1)), [5, 0])
        self.assertEqual(worths([[(1, 1)], [(0, 0)]], Ratio(1, 2)), [1, 0])
        self.assertEqual(worths([[(1, 0)], [(0, 1)]], Ratio(1, 2)), [0, 1])
        self.assertEqual(worths([[(0, 9)]], Ratio(9, 1)), [0])

    def test_the_walk_without_moves_counts(self):
        self.assertEqual(worths([[(1, -7)], [(1, -3)]], Ratio(-3, 1)), [0, 0])
        self.assertEqual(worths([[(1, 2)], [(1, -3)]], Ratio(-3, 1)), [5, 0])

    def test_against_the_longest_walks(self):
        for graph in self.GRAPHS:
            mean = greatest_mean(graph)
            found = worths(graph, mean)
            self.assertIs(type(found), list)
            self.assertEqual(found, longest_walks(graph, mean.num, mean.den))

    def test_an_equal_ratio(self):
        for graph in self.GRAPHS[::7]:
            mean = greatest_mean(graph)
            for equal in (Ratio(mean.num * 6, mean.den * 6), Ratio.parse(str(mean)), Ratio(-mean.num, -mean.den)):
                self.assertEqual(worths(graph, equal), worths(graph, mean))


class FindRing(MeansTest):
    def test_examples(self):
        self.assertEqual(find_ring([[None, (0, 4)]], Ratio(4, 1)), (0, [1]))
        self.assertEqual(find_ring([[(0, 3), (0, 9), (0, 8)]], Ratio(9, 1)), (0, [1]))
        self.assertEqual(find_ring([[(1, 40)], [None, (1, 0)]], Ratio(0, 1)), (1, [1]))
        self.assertIn(find_ring([[(1, 1), (1, 4)], [None, (0, 0)]], Ratio(2, 1)), [(0, [1, 1]), (1, [1, 1])])

    def test_two_rings_with_the_same_mean(self):
        graph = [[(0, 2), (1, 3)], [(0, 1)]]
        self.assertIn(find_ring(graph, Ratio(2, 1)), [(0, [0]), (0, [1, 0]), (1, [0, 1])])

    def test_drawn_graphs(self):
        lengths = []
        for graph in self.GRAPHS:
            mean = greatest_mean(graph)
            for equal in (mean, Ratio(mean.num * 5, mean.den * 5)):
                found = find_ring(graph, equal)
                self.assertRing(graph, mean, found)
                self.assertIn(found, all_rings(graph))
            lengths.append(len(found[1]))
        self.assertTrue({1, 2, 3} <= set(lengths))

    def test_a_ring_through_all_nodes(self):
        graph = [[((node + 1) % 300, node % 5)] for node in range(300)]
        self.assertRing(graph, Ratio(2, 1), find_ring(graph, Ratio(2, 1)))


class Lists(MeansTest):
    def test_graphs_are_not_changed(self):
        for graph in self.GRAPHS[::9]:
            before = deepcopy(graph)
            mean = greatest_mean(graph)
            worths(graph, mean)
            find_ring(graph, mean)
            self.assertEqual(graph, before)

    def test_returned_lists_are_new(self):
        graph = [[(1, 1)], [(0, 0)]]
        mean = greatest_mean(graph)
        worths(graph, mean).clear()
        find_ring(graph, mean)[1].clear()
        self.assertEqual(worths(graph, mean), [1, 0])
        self.assertRing(graph, mean, find_ring(graph, mean))
        graph.clear()
        self.assertEqual((mean.num, mean.den), (1, 2))


if __name__ == "__main__":
    unittest.main()
