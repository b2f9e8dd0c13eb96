"""Promises [14] and [15]: weights, replicated graphs and covers."""

import unittest

from everypart.errors import InvalidWeights, TooLarge, Undefined
from everypart.graphs import Graph
from everypart.perfect import is_perfect
from everypart.weights import (clique_weight, cover_number, heaviest_cliques, is_cover, optimal_cover, perfect_cover,
                               replicated)
from tests.helpers import (Dice, all_graphs, assert_error, assert_keeps, assert_tuples, exchanged, graphs_up_to,
                           heaviest_plainly, independent_sets, is_clique_plainly, is_cover_plainly,
                           is_weights_plainly, joined, nested, nonempty, small_imperfect_graphs, some_graphs,
                           values_of_all_kinds, variants, weigh)

ALL = (clique_weight, heaviest_cliques, replicated, cover_number, optimal_cover, perfect_cover)


def weights_of(graph, seed, values=(0, 1, 2, 3, 39, 40)):
    dice = Dice(seed)
    return tuple(dice.pick(values) for _ in graph)


def light_weights(graph, seed, most=8):
    """Weights with a sum of at most the most."""
    dice = Dice(seed)
    weights = [0] * graph.size
    for _ in range(dice.below(most + 1)):
        weights[dice.below(graph.size)] += 1
    return tuple(weights)


def graphs_with_weights():
    for place, graph in enumerate(list(graphs_up_to(4)) + list(all_graphs(5))[::7] + list(some_graphs(8, 8))):
        for seed in range(3):
            yield graph, weights_of(graph, place + seed)
        yield graph, weights_of(graph, place, (0, 1))
        yield graph, (40,) * graph.size
        yield graph, (0,) * graph.size


def wrong_weights(graph):
    """Values of all kinds that are no weights of the graph."""
    right = tuple(range(graph.size))
    values = list(variants(right)) + list(exchanged(right, values_of_all_kinds() + [41, 40 + 10 ** 30]))
    more = [right[:-1], right + (0,), (), list(right), (40,) * (graph.size - 1) + (41,), (True,) * graph.size,
            (-1,) + right[1:], graph, (graph,) * graph.size, "0" * graph.size, nested(right, 8)]
    return [value for value in values + more if not is_weights_plainly(graph, value)]


class CliqueWeightTest(unittest.TestCase):

    def test_against_plain_search(self):
        for graph, weights in graphs_with_weights():
            greatest = heaviest_plainly(graph, weights)
            self.assertEqual(clique_weight(graph, weights), greatest)
            self.assertIs(clique_weight(graph=graph, weights=weights).__class__, int)
            known = tuple(sorted(part for part in nonempty(graph.size) if is_clique_plainly(graph, part) and
                                 weigh(part, weights) == greatest and all(weights[v] > 0 for v in part)))
            self.assertEqual(heaviest_cliques(graph=graph, weights=weights), known)
            assert_tuples(self, heaviest_cliques(graph, weights))

    def test_examples(self):
        graph = Graph(3, ((0, 1),))
        self.assertEqual(clique_weight(graph, (1, 1, 2)), 2)
        self.assertEqual(heaviest_cliques(graph, (1, 1, 2)), ((0, 1), (2,)))
        self.assertEqual(heaviest_cliques(graph, (2, 0, 2)), ((0,), (2,)))
        self.assertEqual(heaviest_cliques(graph, (0, 0, 0)), ())
        self.assertEqual(clique_weight(graph, (0, 0, 0)), 0)
        self.assertEqual(clique_weight(Graph.complete(8), (40,) * 8), 320)
        self.assertEqual(heaviest_cliques(Graph.complete(8), (40,) * 7 + (0,)), (tuple(range(7)),))

    def test_8_and_9_vertices(self):
        for call in (clique_weight, heaviest_cliques):
            call(Graph.path(8), (1,) * 8)
            assert_error(self, TooLarge, lambda: call(Graph.path(9), (1,) * 9), what="vertices")
            assert_keeps(self, InvalidWeights, "value", (1,) * 8, lambda value: call(Graph.path(9), value))
            assert_keeps(self, InvalidWeights, "value", (1,) * 8 + (41,), lambda value: call(Graph.path(9), value))


class WrongWeightsTest(unittest.TestCase):

    def test_what_is_no_weights(self):
        for graph in (Graph.path(3), Graph.path(1), Graph.cycle(5)):
            for value in wrong_weights(graph):
                for call in ALL:
                    assert_keeps(self, InvalidWeights, "value", value, lambda weights: call(graph, weights))
                assert_keeps(self, InvalidWeights, "value", value, lambda weights: is_cover(graph, weights, ()))
                assert_keeps(self, InvalidWeights, "value", value, lambda weights: is_cover(graph, weights, None))

    def test_40_and_41(self):
        graph = Graph.edgeless(2)
        self.assertEqual(clique_weight(graph, (40, 39)), 40)
        self.assertIs(is_cover(graph, (40, 39), (((0,), 1), ((0, 1), 39))), True)
        for call in ALL:
            assert_keeps(self, InvalidWeights, "value", (40, 41), lambda weights: call(graph, weights))
            assert_keeps(self, InvalidWeights, "value", (0, -1), lambda weights: call(graph, weights))

    def test_sizes_are_judged_behind(self):
        graph = Graph.complete(24)
        for call in ALL:
            assert_keeps(self, InvalidWeights, "value", (40,) * 23, lambda weights: call(graph, weights))
            assert_keeps(self, InvalidWeights, "value", (40,) * 23 + (41,), lambda weights: call(graph, weights))


class ReplicatedTest(unittest.TestCase):

    def test_against_plain_search(self):
        for place, graph in enumerate(list(graphs_up_to(4)) + list(some_graphs(8, 10)) + list(some_graphs(24, 3))):
            for seed in range(4):
                weights = light_weights(graph, place * 4 + seed, 24)
                if sum(weights) == 0:
                    continue
                owners = [vertex for vertex in graph for _ in range(weights[vertex])]
                edges = [(a, b) for b in range(len(owners)) for a in range(b)
                         if owners[a] == owners[b] or joined(graph, owners[a], owners[b])]
                self.assertEqual(replicated(graph=graph, weights=weights), Graph(len(owners), sorted(edges)))

    def test_examples(self):
        self.assertEqual(replicated(Graph.path(2), (0, 3)), Graph.complete(3))
        self.assertEqual(replicated(Graph.edgeless(2), (1, 2)), Graph(3, ((1, 2),)))
        self.assertEqual(replicated(Graph.path(3), (2, 0, 1)), Graph(3, ((0, 1),)))
        for graph in (Graph.cycle(24), Graph.cycle(5)):
            self.assertEqual(replicated(graph, (1,) * graph.size), graph)

    def test_sums(self):
        self.assertEqual(replicated(Graph.path(1), (24,)), Graph.complete(24))
        assert_error(self, TooLarge, lambda: replicated(Graph.path(1), (25,)), what="vertices")
        self.assertEqual(replicated(Graph.edgeless(24), (1,) * 24), Graph.edgeless(24))
        assert_error(self, TooLarge, lambda: replicated(Graph.edgeless(24), (2,) + (1,) * 23), what="vertices")
        assert_error(self, TooLarge, lambda: replicated(Graph.edgeless(24), (40,) * 24), what="vertices")
        for size in (1, 8, 24):
            assert_error(self, Undefined, lambda: replicated(Graph.path(size), (0,) * size), what="graph")

    def test_a_replicated_perfect_graph_is_perfect(self):
        for place, graph in enumerate(list(all_graphs(5))[::5]):
            for seed in range(3):
                weights = light_weights(graph, place + seed)
                if sum(weights) > 0 and is_perfect(graph):
                    self.assertIs(is_perfect(replicated(graph, weights)), True)
        self.assertIs(is_perfect(replicated(Graph.cycle(5), (2, 1, 1, 3, 1))), False)


def cover_number_plainly(graph, weights, sets):
    """The least sum of the times of a cover, by trying all sets at the first vertex with something left."""
    left = [vertex for vertex in graph if weights[vertex] > 0]
    if not left:
        return 0
    fitting = [part for part in sets if left[0] in part and all(weights[vertex] > 0 for vertex in part)]
    return 1 + min(cover_number_plainly(graph, tuple(weights[v] - (v in part) for v in graph), sets)
                   for part in fitting)


class IsCoverTest(unittest.TestCase):

    def check(self, graph, weights, cover):
        self.assertIs(is_cover(graph=graph, weights=weights, cover=cover), True)
        for value in list(variants(cover)) + list(exchanged(cover, values_of_all_kinds() + [(), 0, 1, (1,)])):
            self.assertIs(is_cover(graph, weights, value), is_cover_plainly(graph, weights, value), value)
        for vertex in graph:
            other = list(weights)
            other[vertex] += 1 if other[vertex] < 40 else -1
            self.assertIs(is_cover(graph, tuple(other), cover), False)

    def test_right_ones_with_one_place_changed(self):
        self.check(Graph.path(4), (3, 2, 1, 5), (((0, 2), 1), ((0, 3), 2), ((1, 3), 2), ((3,), 1)))
        self.check(Graph.cycle(5), (1, 1, 1, 1, 1), (((0, 2), 1), ((1, 3), 1), ((4,), 1)))
        self.check(Graph.edgeless(3), (40, 40, 39), (((0, 1), 1), ((0, 1, 2), 39)))
        self.check(Graph.complete(2), (40, 1), (((0,), 40), ((1,), 1)))
        self.check(Graph.path(1), (0,), ())
        self.check(Graph.path(2), (0, 1), (((1,), 1),))

    def test_24_vertices(self):
        ring = Graph.cycle(24)
        halves = (tuple(range(0, 24, 2)), tuple(range(1, 24, 2)))
        cover = ((halves[0], 40), (halves[1], 7))
        self.check(ring, (40, 7) * 12, cover)
        self.assertIs(is_cover(ring, (40, 7) * 12, cover[::-1]), False)
        self.assertIs(is_cover(Graph.complete(24), (40, 7) * 12, cover), False)

    def test_sets_of_all_kinds(self):
        graph, weights = Graph.path(3), (1, 1, 1)
        for cover in ((((0, 1), 1), ((2,), 1)), (((0, 2), 1), ((1,), True)), (((0, 2), True), ((1,), 1)),
                      (((), 1), ((0, 2), 1), ((1,), 1)), (((0,), 1), ((1,), 1), ((0, 2), 1)), [((0, 2), 1), ((1,), 1)],
                      (((2, 0), 1), ((1,), 1)), (((0, 2), 1), ((1,), 0), ((1,), 1)), (((0, False), 1),),
                      (((0, 2), 1), ((1,), 2), ((1, ), -1)), (((0, 2), 1), ((1,), 1), ((3,), 1)), (((0, 2), 1),),
                      (((0, 2), 1), ((1,), 1), ((1,), 1)), (((0,), 1), ((1,), 1), ((2,), 1), ((2,), 1)), None, 0, graph,
                      (((0, 2), "1"), ((1,), 1)), ([(0, 2), 1], ((1,), 1)), (([0, 2], 1), ((1,), 1)), "",
                      ((0, 2), (1,)), (((0, 2), 1, 1), ((1,), 1)), (((0, 2),), ((1,), 1)), ((1, (0, 2)), (1, (1,)))):
            self.assertIs(is_cover(graph, weights, cover), False, cover)
        # Times of 0 or below, though all add up to the weights.
        for cover in ((((0,), 0), ((0, 2), 1), ((1,), 1)), (((0,), -1), ((0, 2), 2), ((1,), 1), ((2,), -1)),
                      (((0, 2), 1), ((1,), 1), ((2,), 0))):
            self.assertIs(is_cover(graph, weights, cover), False, cover)
        self.assertIs(is_cover(graph, weights, (((0, 2), 1), ((1,), 1))), True)
        self.assertIs(is_cover(graph, weights, (((0,), 1), ((1,), 1), ((2,), 1))), True)
        # One set twice is wrong even where the pairs ascend.
        self.assertIs(is_cover(Graph.path(1), (3,), (((0,), 1), ((0,), 2))), False)
        self.assertIs(is_cover(Graph.path(1), (3,), (((0,), 3),)), True)

    def test_all_weights_0(self):
        for size in (1, 8, 24):
            self.assertIs(is_cover(Graph.path(size), (0,) * size, ()), True)
            self.assertIs(is_cover(Graph.path(size), (0,) * size, (((0,), 1),)), False)
            self.assertIs(is_cover(Graph.path(size), (0,) * size, []), False)


class OptimalCoverTest(unittest.TestCase):

    def test_against_plain_search(self):
        graphs = list(graphs_up_to(4)) + list(all_graphs(5))[::17] + small_imperfect_graphs() + list(some_graphs(8, 6))
        for place, graph in enumerate(graphs):
            sets = independent_sets(graph)
            for seed in range(3):
                weights = light_weights(graph, place * 5 + seed)
                known = cover_number_plainly(graph, weights, sets)
                self.assertEqual(cover_number(graph=graph, weights=weights), known)
                cover = optimal_cover(graph=graph, weights=weights)
                assert_tuples(self, cover)
                self.assertTrue(is_cover_plainly(graph, weights, cover), (graph.edges, weights, cover))
                self.assertEqual(sum(times for _, times in cover), known)
                self.assertEqual(optimal_cover(graph, weights), cover)

    def test_examples(self):
        ring = Graph.cycle(5)
        self.assertEqual(cover_number(ring, (1,) * 5), 3)
        self.assertEqual(cover_number(ring, (2, 2, 2, 1, 1)), 4)
        self.assertEqual(cover_number(Graph.cycle(7), (1,) * 7), 3)
        self.assertEqual(cover_number(~Graph.cycle(7), (1,) * 7), 4)
        self.assertEqual(optimal_cover(Graph.path(1), (8,)), (((0,), 8),))
        self.assertEqual(optimal_cover(Graph.edgeless(8), (1,) * 8), ((tuple(range(8)), 1),))

    def test_sums_of_8_and_9(self):
        for call in (cover_number, optimal_cover):
            call(Graph.path(8), (8,) + (0,) * 7)
            call(Graph.path(8), (1,) * 8)
            for graph, weights in ((Graph.path(1), (9,)), (Graph.path(8), (2,) + (1,) * 7), (Graph.path(9), (1,) * 9),
                                   (Graph.cycle(24), (40,) * 24), (Graph.path(2), (4, 5))):
                assert_error(self, TooLarge, lambda: call(graph, weights), what="weights")
            for graph, weights in ((Graph.path(9), (1,) * 8 + (0,)), (Graph.path(9), (0,) * 9),
                                   (Graph.edgeless(24), (8,) + (0,) * 23)):
                assert_error(self, TooLarge, lambda: call(graph, weights), what="vertices")

    def test_all_weights_0(self):
        for size in (1, 5, 8):
            self.assertEqual(optimal_cover(Graph.path(size), (0,) * size), ())
            self.assertEqual(cover_number(Graph.path(size), (0,) * size), 0)


class PerfectCoverTest(unittest.TestCase):

    def check(self, graph, weights):
        cover = perfect_cover(graph=graph, weights=weights)
        assert_tuples(self, cover)
        self.assertTrue(is_cover_plainly(graph, weights, cover), (graph.edges, weights, cover))
        self.assertIs(is_cover(graph, weights, cover), True)
        self.assertEqual(sum(times for _, times in cover), heaviest_plainly(graph, weights))
        self.assertEqual(perfect_cover(graph, weights), cover)

    def test_perfect_graphs(self):
        for graph, weights in graphs_with_weights():
            if is_perfect(graph):
                self.check(graph, weights)
            else:
                assert_error(self, Undefined, lambda: perfect_cover(graph, weights), what="cover")

    def test_8_vertices_with_great_weights(self):
        graphs = [Graph.cycle(8), ~Graph.cycle(8), Graph.complete(8), Graph.edgeless(8), Graph.path(8), ~Graph.path(8),
                  Graph.edgeless(4) * Graph.edgeless(4), Graph.complete(4) + Graph.path(4)]
        for graph in graphs + [graph for graph in some_graphs(8, 40) if is_perfect(graph)]:
            for seed in range(3):
                self.check(graph, weights_of(graph, seed, tuple(range(41))))
            self.check(graph, weights_of(graph, 9, (0, 40)))

    def test_imperfect_graphs(self):
        for graph in small_imperfect_graphs():
            for weights in ((0,) * graph.size, (1,) * graph.size, (40,) * graph.size):
                assert_error(self, Undefined, lambda: perfect_cover(graph, weights), what="cover")

    def test_9_vertices(self):
        for graph in (Graph.path(9), Graph.cycle(9), Graph.edgeless(24)):
            assert_error(self, TooLarge, lambda: perfect_cover(graph, (1,) * graph.size), what="vertices")


class BoldTest(unittest.TestCase):

    def test_perfect_exactly_if_numbers_are_equal_for_all_weights_up_to_1(self):
        for graph in list(graphs_up_to(4)) + list(all_graphs(5))[::9] + [Graph.cycle(5), Graph.cycle(7), Graph.path(7),
                                                                         Graph.path(2) + Graph.cycle(5)]:
            equal = True
            for bits in range(2 ** graph.size):
                weights = tuple(bits >> vertex & 1 for vertex in graph)
                equal = equal and cover_number(graph, weights) == clique_weight(graph, weights)
            self.assertEqual(equal, is_perfect(graph))

    def test_then_for_all_weights(self):
        for place, graph in enumerate(list(some_graphs(6, 40)) + list(some_graphs(8, 20))):
            weights = light_weights(graph, place)
            self.assertLessEqual(clique_weight(graph, weights), cover_number(graph, weights))
            if is_perfect(graph):
                self.assertEqual(clique_weight(graph, weights), cover_number(graph, weights))


if __name__ == "__main__":
    unittest.main()
