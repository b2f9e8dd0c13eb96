"""Promise [12]: minimal imperfect graphs."""

import unittest
from itertools import combinations, permutations

from everypart.errors import InvalidNumber, TooLarge, Undefined
from everypart.graphs import Graph
from everypart.minimal import clique_pairs, is_minimal_imperfect, minimal_imperfect_subsets, partitions_without
from tests.helpers import (all_graphs, assert_error, assert_keeps, assert_tuples, bad_plainly, graphs_up_to,
                           is_clique_plainly, is_independent_plainly, largest_plainly, renumbered, small_imperfect_graphs,
                           some_graphs, values_of_all_kinds)


def minimal_graphs():
    """Minimal imperfect graphs: all cycles of five, and cycles of seven and their complements."""
    fives = {renumbered(Graph.cycle(5), names).edges for names in permutations(range(5))}
    sevens = [renumbered(Graph.cycle(7), names) for names in list(permutations(range(7)))[::397]]
    return [Graph(5, edges) for edges in sorted(fives)] + sevens + [~graph for graph in sevens]


def greatest_sets(graph, judge):
    most = largest_plainly(graph, tuple(range(graph.size)), judge)
    return [part for part in combinations(range(graph.size), most) if judge(graph, part)]


def exact_partitions(sets, vertices):
    """All ascending tuples of sets in which each of the vertices comes just once, and no other one."""
    count = len(vertices) // len(sets[0])
    return [choice for choice in combinations(sets, count)
            if sorted(vertex for part in choice for vertex in part) == list(vertices)]


class MinimalTest(unittest.TestCase):

    def minimal_plainly(self, graph):
        bad = bad_plainly(graph)
        return tuple(part for part in bad if not any(set(other) < set(part) for other in bad))

    def check(self, graph):
        known = self.minimal_plainly(graph)
        self.assertEqual(minimal_imperfect_subsets(graph), known)
        assert_tuples(self, minimal_imperfect_subsets(graph))
        self.assertIs(is_minimal_imperfect(graph), known == (tuple(range(graph.size)),))

    def test_small_graphs(self):
        for graph in list(graphs_up_to(4)) + list(all_graphs(5))[::13]:
            self.check(graph)
        minimal = [graph for graph in all_graphs(5) if is_minimal_imperfect(graph)]
        self.assertEqual(len(minimal), 12)

    def test_larger_graphs(self):
        for graph in list(some_graphs(6, 15)) + list(some_graphs(7, 8)) + list(some_graphs(8, 6)):
            self.check(graph)

    def test_cycles_and_complements(self):
        for graph in small_imperfect_graphs():
            self.check(graph)
        for graph in minimal_graphs():
            self.assertIs(is_minimal_imperfect(graph=graph), True)
            self.assertEqual(minimal_imperfect_subsets(graph=graph), (tuple(range(graph.size)),))
        for graph in (Graph.cycle(6), Graph.cycle(8), Graph.path(1), Graph.complete(5), Graph.edgeless(7)):
            self.assertIs(is_minimal_imperfect(graph), False)
            self.assertEqual(minimal_imperfect_subsets(graph), ())

    def test_several_subsets(self):
        # Vertices 0 and 5 are alike; so are 6 and 1: each may stand in the ring of five.
        ring = Graph(7, ((0, 1), (0, 4), (0, 6), (1, 2), (1, 5), (2, 3), (2, 6), (3, 4), (4, 5), (5, 6)))
        self.assertEqual(minimal_imperfect_subsets(ring), ((0, 1, 2, 3, 4), (0, 2, 3, 4, 6), (1, 2, 3, 4, 5),
                                                           (2, 3, 4, 5, 6)))
        self.check(ring)

    def test_9_vertices_and_more(self):
        for call in (is_minimal_imperfect, minimal_imperfect_subsets, clique_pairs):
            for graph in (Graph.cycle(9), Graph.complete(9), Graph.edgeless(24)):
                assert_error(self, TooLarge, lambda: call(graph), what="vertices")


class PairsTest(unittest.TestCase):

    def test_pairs(self):
        for graph in minimal_graphs():
            cliques = greatest_sets(graph, is_clique_plainly)
            sets = greatest_sets(graph, is_independent_plainly)
            pairs = clique_pairs(graph)
            assert_tuples(self, pairs)
            self.assertEqual(clique_pairs(graph=graph), pairs)
            self.assertEqual([clique for clique, _ in pairs], cliques)
            self.assertEqual(sorted(missed for _, missed in pairs), sets)
            for place, (clique, _) in enumerate(pairs):
                self.assertEqual([len(set(clique) & set(missed)) for _, missed in pairs],
                                 [int(place != other) for other in range(len(pairs))])
            w, a = len(cliques[0]), len(sets[0])
            self.assertEqual((len(pairs), len(cliques), len(sets)), (graph.size,) * 3)
            self.assertEqual(a * w + 1, graph.size)

    def test_pairs_of_the_ring_of_five(self):
        self.assertEqual(clique_pairs(Graph.cycle(5)), (((0, 1), (2, 4)), ((0, 4), (1, 3)), ((1, 2), (0, 3)),
                                                        ((2, 3), (1, 4)), ((3, 4), (0, 2))))

    def test_no_pairs(self):
        for graph in [Graph.path(1), Graph.complete(5), Graph.cycle(6), Graph.cycle(8), Graph.edgeless(8),
                      Graph.cycle(5) + Graph.path(1), Graph.cycle(7) * Graph.path(1), Graph.cycle(5) * Graph.path(3)]:
            assert_error(self, Undefined, lambda: clique_pairs(graph), what="pairs")
            assert_error(self, Undefined, lambda: partitions_without(graph, 0), what="pairs")

    def test_partitions(self):
        for graph in minimal_graphs():
            cliques = greatest_sets(graph, is_clique_plainly)
            sets = greatest_sets(graph, is_independent_plainly)
            for vertex in range(graph.size):
                rest = [other for other in range(graph.size) if other != vertex]
                found = partitions_without(graph, vertex)
                self.assertEqual(found, partitions_without(graph=graph, vertex=vertex))
                assert_tuples(self, found)
                self.assertEqual(len(found), 2)
                self.assertEqual([found[0]], exact_partitions(sets, rest))
                self.assertEqual([found[1]], exact_partitions(cliques, rest))

    def test_partitions_of_the_ring_of_five(self):
        self.assertEqual(partitions_without(Graph.cycle(5), 0), (((1, 3), (2, 4)), ((1, 2), (3, 4))))
        self.assertEqual(partitions_without(Graph.cycle(5), 4), (((0, 2), (1, 3)), ((0, 1), (2, 3))))

    def test_wrong_vertices_are_told_first(self):
        for graph in (Graph.cycle(5), Graph.path(3), Graph.cycle(9), Graph.edgeless(24)):
            for value in values_of_all_kinds() + [-1, graph.size, True, False, (), (0,), "0"]:
                assert_keeps(self, InvalidNumber, "value", value, lambda vertex: partitions_without(graph, vertex))

    def test_partitions_of_9_vertices_and_more(self):
        for graph in (Graph.cycle(9), Graph.edgeless(24)):
            assert_error(self, TooLarge, lambda: partitions_without(graph, 8), what="vertices")


if __name__ == "__main__":
    unittest.main()
