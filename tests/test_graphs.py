"""Promises [5] and [6]: graphs, and what of [1] to [4] concerns them."""

import unittest

from everypart.errors import InvalidGraph, InvalidNumber, InvalidSubset, TooLarge
from everypart.graphs import Graph
from tests.helpers import (all_pairs, assert_error, assert_keeps, assert_tuples, graphs_up_to, is_plain_subset,
                           joined, nested, nonempty, some_graphs, values_of_all_kinds)

NO_SIZES = [0, -1, 25, 10 ** 30, True, False, None, "", "3", (3,), [3], (), nested(3, 10), Graph.path(3)]
NO_EDGES = [None, True, 0, 1, "01", (), (0,), (0, 1, 2), [0, 1], [], (1, 0), (0, 0), (0, 4), (-1, 0), (-2, -1), (3, 10),
            (0, True), (False, 1), (False, True), (0, None), ("0", "1"), ((0, 1),), ((0, 1), 2), Graph.path(2),
            nested(0, 9), (0, nested(1, 9))]


class MakingTest(unittest.TestCase):

    def test_attributes(self):
        graph = Graph(4, ((0, 1), (0, 3), (2, 3)))
        self.assertEqual((graph.size, graph.edges), (4, ((0, 1), (0, 3), (2, 3))))
        self.assertEqual(Graph(size=2, edges=((0, 1),)).edges, ((0, 1),))
        self.assertIs(graph.size.__class__, int)

    def test_lists_are_taken_and_tuples_kept(self):
        edges = [(0, 1), (1, 2)]
        graph = Graph(3, edges)
        edges.append((0, 0))
        edges[0] = None
        self.assertEqual(graph.edges, ((0, 1), (1, 2)))
        assert_tuples(self, graph.edges)
        self.assertEqual(Graph(1, []).edges, ())
        self.assertEqual(graph.neighbors(1), (0, 2))

    def test_the_edges_passed_stay(self):
        edges = [(0, 2), (1, 2)]
        Graph(3, edges)
        self.assertEqual(edges, [(0, 2), (1, 2)])

    def test_sizes_at_the_bounds(self):
        for size in (1, 24):
            self.assertEqual(Graph(size, ()).size, size)
        self.assertEqual(Graph(24, ((22, 23),)).neighbors(23), (22,))
        self.assertEqual(len(Graph(24, all_pairs(24)).edges), 276)

    def test_wrong_sizes(self):
        for size in NO_SIZES:
            assert_error(self, InvalidGraph, lambda: Graph(size, ()), part="size", place=0)

    def test_wrong_size_is_told_ahead_of_wrong_edges(self):
        for edges in (None, ((0, 0),), ((0, 1), (0, 1))):
            assert_error(self, InvalidGraph, lambda: Graph(25, edges), part="size", place=0)

    def test_edges_that_are_no_sequence(self):
        for edges in (None, True, False, 0, 7, "", "ab", Graph.path(3)):
            assert_error(self, InvalidGraph, lambda: Graph(3, edges), part="edges", place=0)

    def test_wrong_edges(self):
        for edge in NO_EDGES:
            for kind in (tuple, list):
                assert_error(self, InvalidGraph, lambda: Graph(4, kind([edge])), part="edges", place=0)
                assert_error(self, InvalidGraph, lambda: Graph(4, kind([(0, 1), (0, 2), edge, (2, 3)])),
                             part="edges", place=2)

    def test_edges_that_do_not_ascend(self):
        for edge in ((0, 1), (0, 2), (1, 2)):
            assert_error(self, InvalidGraph, lambda: Graph(4, ((0, 2), (1, 2), edge)), part="edges", place=2)
        assert_error(self, InvalidGraph, lambda: Graph(2, ((0, 1), (0, 1))), part="edges", place=1)

    def test_the_first_wrong_edge_is_told(self):
        edges = [(0, 1), (0, 3), (0, 2), (0, 0), None]
        assert_error(self, InvalidGraph, lambda: Graph(4, edges), part="edges", place=2)
        assert_error(self, InvalidGraph, lambda: Graph(3, edges), part="edges", place=1)
        assert_error(self, InvalidGraph, lambda: Graph(1, edges), part="edges", place=0)
        assert_error(self, InvalidGraph, lambda: Graph(4, edges[:2] + [edges, (0, 0)]), part="edges", place=2)


class AskingTest(unittest.TestCase):

    def test_len_and_iteration(self):
        for size in (1, 2, 8, 24):
            graph = Graph.path(size)
            self.assertEqual(len(graph), size)
            self.assertEqual(list(graph), list(range(size)))
            self.assertEqual([(a, b) for a in graph for b in graph][:size], [(0, b) for b in range(size)])
            self.assertEqual(list(graph), list(range(size)))

    def test_contains_pairs_in_either_order(self):
        for graph in list(graphs_up_to(4)) + list(some_graphs(8, 4)) + list(some_graphs(24, 2)):
            for a in range(-2, graph.size + 2):
                for b in range(-2, graph.size + 2):
                    known = (min(a, b), max(a, b)) in graph.edges
                    self.assertIs((a, b) in graph, known)
                    self.assertIs((a, b) not in graph, not known)

    def test_contains_nothing_else(self):
        graph = Graph.complete(24)
        for value in values_of_all_kinds() + [0, 1, (), (0,), (0, 1, 2), [0, 1], (0, 0), (23, 24), (24, 23), (-1, -2),
                                              (True, 2), (2, True), (None, 1), (1, None), ("0", 1), (0, [1]),
                                              (graph, 1), (1, graph), ((0, 1), (1, 2)), graph]:
            self.assertIs(value in graph, False, value)

    def test_neighbors(self):
        for graph in list(graphs_up_to(4)) + list(some_graphs(24, 3)):
            for vertex in range(graph.size):
                known = tuple(other for other in range(graph.size) if joined(graph, vertex, other))
                self.assertEqual(graph.neighbors(vertex), known)
                self.assertEqual(graph.neighbors(vertex=vertex), known)
                assert_tuples(self, graph.neighbors(vertex))

    def test_neighbors_of_no_vertex(self):
        for graph in (Graph.complete(1), Graph.complete(3), Graph.complete(24)):
            for value in values_of_all_kinds() + [graph.size, -1, True, False, ()]:
                assert_keeps(self, InvalidNumber, "value", value, graph.neighbors)

    def test_degrees(self):
        for graph in list(graphs_up_to(4)) + list(some_graphs(24, 3)):
            known = tuple(sum(vertex in edge for edge in graph.edges) for vertex in range(graph.size))
            self.assertEqual(graph.degrees, known)
            assert_tuples(self, graph.degrees)

    def test_equality(self):
        graphs = list(graphs_up_to(3))
        for at, one in enumerate(graphs):
            for place, other in enumerate(graphs):
                self.assertIs(one == other, at == place)
                self.assertIs(one != other, at != place)
            self.assertIs(one == Graph(one.size, list(one.edges)), True)
            self.assertIs(one != Graph(one.size, list(one.edges)), False)

    def test_equality_with_other_kinds(self):
        graph = Graph.edgeless(2)
        for value in [True, None, 2, "graph", (), [], (2, ()), [2, ()], (0, 1), (graph,), [graph], InvalidNumber(2)]:
            self.assertIs(graph == value, False)
            self.assertIs(value == graph, False)
            self.assertIs(graph != value, True)
            self.assertIs(value != graph, True)


class MakingOfOthersTest(unittest.TestCase):

    def test_complement(self):
        for graph in list(graphs_up_to(4)) + list(some_graphs(24, 3)):
            other = ~graph
            self.assertEqual(other.size, graph.size)
            self.assertEqual(other.edges, tuple(p for p in all_pairs(graph.size) if p not in graph.edges))
            self.assertEqual(~other, graph)

    def test_union_and_join(self):
        graphs = list(graphs_up_to(3))
        for one in graphs:
            for other in graphs:
                n, m = one.size, other.size
                both = one.edges + tuple((a + n, b + n) for a, b in other.edges)
                between = tuple((a, b + n) for a in range(n) for b in range(m))
                self.assertEqual(((one + other).size, (one + other).edges), (n + m, both))
                self.assertEqual(((one * other).size, (one * other).edges), (n + m, tuple(sorted(both + between))))

    def test_union_and_join_at_24_vertices(self):
        one, other = Graph.cycle(20), Graph.complete(4)
        self.assertEqual((one + other).size, 24)
        self.assertEqual(len((one + other).edges), 26)
        self.assertEqual(len((one * other).edges), 106)
        self.assertEqual(Graph.complete(12) * Graph.complete(12), Graph.complete(24))
        self.assertEqual(Graph.edgeless(23) + Graph.edgeless(1), Graph.edgeless(24))

    def test_union_and_join_above_24_vertices(self):
        for n, m in ((24, 1), (1, 24), (12, 13), (24, 24)):
            one, other = Graph.path(n), Graph.edgeless(m)
            assert_error(self, TooLarge, lambda: one + other, what="vertices")
            assert_error(self, TooLarge, lambda: one * other, what="vertices")

    def test_operators_change_nothing(self):
        one, other = Graph.path(3), Graph.cycle(4)
        for result in (~one, one + other, one * other, one.induced((0, 2))):
            self.assertIs(result.__class__, Graph)
            assert_tuples(self, result.edges)
        self.assertEqual((one, other), (Graph.path(3), Graph.cycle(4)))

    def test_induced(self):
        for graph in list(graphs_up_to(4)) + list(some_graphs(7, 3)):
            for part in nonempty(graph.size):
                inner = graph.induced(part)
                self.assertEqual(inner.size, len(part))
                known = tuple((a, b) for a, b in all_pairs(len(part)) if joined(graph, part[a], part[b]))
                self.assertEqual(inner.edges, known)
        self.assertEqual(Graph.cycle(24).induced(subset=(0, 1, 22, 23)), Graph(4, ((0, 1), (0, 3), (2, 3))))

    def test_induced_of_no_subset(self):
        graph = Graph.complete(24)
        for value in values_of_all_kinds() + [(), [], [0], (1, 0), (0, 0), (0, 24), (-1,), (True,), (0, True), 0]:
            assert_keeps(self, InvalidSubset, "value", value, graph.induced)
        assert_keeps(self, InvalidSubset, "value", (0, 3), Graph.path(3).induced)


class NamedGraphsTest(unittest.TestCase):

    def test_complete_edgeless_and_path(self):
        for size in range(1, 25):
            self.assertEqual(Graph.complete(size).edges, tuple(all_pairs(size)))
            self.assertEqual(Graph.edgeless(size).edges, ())
            self.assertEqual(Graph.path(size).edges, tuple((v, v + 1) for v in range(size - 1)))
            for graph in (Graph.complete(size=size), Graph.edgeless(size=size), Graph.path(size=size)):
                self.assertEqual(graph.size, size)
                self.assertIs(graph.__class__, Graph)

    def test_cycle(self):
        self.assertEqual(Graph.cycle(3), Graph.complete(3))
        for size in range(3, 25):
            known = sorted([(v, v + 1) for v in range(size - 1)] + [(0, size - 1)])
            self.assertEqual((Graph.cycle(size=size).size, Graph.cycle(size).edges), (size, tuple(known)))

    def test_wrong_sizes(self):
        for call in (Graph.complete, Graph.edgeless, Graph.path, Graph.cycle):
            for size in NO_SIZES:
                assert_keeps(self, InvalidNumber, "value", size, call)
        for size in (1, 2):
            assert_keeps(self, InvalidNumber, "value", size, Graph.cycle)

    def test_circular(self):
        seen = []
        for w in range(2, 12):
            for a in range(2, 12):
                size = a * w + 1
                if size <= 24:
                    graph = Graph.circular(w, a)
                    known = [(i, j) for i, j in all_pairs(size)
                             if any((i + step) % size == j or (j + step) % size == i for step in range(1, w))]
                    self.assertEqual((graph.size, graph.edges), (size, tuple(known)))
                    self.assertEqual(Graph.circular(w=w, a=a), graph)
                    seen.append(size)
                else:
                    assert_error(self, TooLarge, lambda: Graph.circular(w, a), what="vertices")
        self.assertEqual((min(seen), max(seen)), (5, 23))
        self.assertEqual(Graph.circular(2, 2), Graph.cycle(5))
        self.assertEqual(Graph.circular(2, 11), Graph.cycle(23))
        assert_error(self, TooLarge, lambda: Graph.circular(10 ** 30, 2), what="vertices")

    def test_circular_with_wrong_numbers(self):
        for value in [1, 0, -1, -5, True, False, None, "2", (2,), [2], (), nested(2, 10), Graph.path(2)]:
            assert_keeps(self, InvalidNumber, "value", value, lambda w: Graph.circular(w, 2))
            assert_keeps(self, InvalidNumber, "value", value, lambda w: Graph.circular(w, None))
            assert_keeps(self, InvalidNumber, "value", value, lambda a: Graph.circular(2, a))
            assert_keeps(self, InvalidNumber, "value", value, lambda a: Graph.circular(100, a))
            assert_keeps(self, InvalidNumber, "value", value, lambda w: Graph.circular(w, 100))


class OracleTest(unittest.TestCase):

    def test_subsets_of_the_helpers(self):
        self.assertTrue(is_plain_subset((), 1) and is_plain_subset((0, 2), 3))
        self.assertFalse(is_plain_subset((0, True), 3) or is_plain_subset((0, 3), 3) or is_plain_subset([0], 3))


if __name__ == "__main__":
    unittest.main()
