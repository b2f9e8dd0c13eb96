"""Promise [8]: cliques and independent sets."""

import unittest

from everypart.cliques import (clique_number, independence_number, is_clique, is_independent, maximal_cliques,
                               maximum_cliques, maximum_independent_sets)
from everypart.errors import InvalidSubset, TooLarge
from everypart.graphs import Graph
from tests.helpers import (assert_error, assert_keeps, assert_tuples, graphs_up_to, is_clique_plainly,
                           is_independent_plainly, nonempty, small_imperfect_graphs, some_graphs, values_of_all_kinds)

EXHAUSTIVE = (clique_number, independence_number, maximum_cliques, maximum_independent_sets, maximal_cliques)


def graphs():
    return list(graphs_up_to(4)) + list(some_graphs(5, 30)) + list(some_graphs(8, 8)) + small_imperfect_graphs()


class JudgingTest(unittest.TestCase):

    def test_all_subsets_of_many_graphs(self):
        for graph in graphs():
            for part in nonempty(graph.size):
                self.assertIs(is_clique(graph, part), is_clique_plainly(graph, part))
                self.assertIs(is_independent(graph, part), is_independent_plainly(graph, part))

    def test_the_empty_subset_is_both(self):
        for graph in (Graph.path(1), Graph.complete(24), Graph.cycle(5)):
            self.assertIs(is_clique(graph, ()), True)
            self.assertIs(is_independent(graph=graph, subset=()), True)

    def test_graphs_of_24_vertices(self):
        whole = tuple(range(24))
        for graph, clique, independent in ((Graph.complete(24), True, False), (Graph.edgeless(24), False, True),
                                           (Graph.cycle(24), False, False)):
            self.assertIs(is_clique(graph=graph, subset=whole), clique)
            self.assertIs(is_independent(graph, whole), independent)
            self.assertIs(is_clique(graph, (0, 23)), (0, 23) in graph.edges)
            self.assertIs(is_independent(graph, (0, 23)), (0, 23) not in graph.edges)
            self.assertIs(is_clique(graph, (0, 2)), clique)
            self.assertIs(is_independent(graph, (0, 2)), not clique)

    def test_no_subsets(self):
        graph = Graph.complete(24)
        for call in (is_clique, is_independent):
            for value in values_of_all_kinds() + [0, [], [0], (1, 0), (0, 0), (24,), (-1,), (True,), (0, True), None]:
                assert_keeps(self, InvalidSubset, "value", value, lambda part: call(graph, part))
            assert_keeps(self, InvalidSubset, "value", (0, 2), lambda part: call(Graph.path(2), part))


class FindingTest(unittest.TestCase):

    def check_greatest(self, graph, number, greatest, judge):
        fitting = [part for part in nonempty(graph.size) if judge(graph, part)]
        most = max(len(part) for part in fitting)
        self.assertEqual(number(graph), most)
        self.assertIs(number(graph).__class__, int)
        self.assertEqual(greatest(graph), tuple(sorted(part for part in fitting if len(part) == most)))
        assert_tuples(self, greatest(graph))

    def test_greatest_ones(self):
        for graph in graphs():
            self.check_greatest(graph, clique_number, maximum_cliques, is_clique_plainly)
            self.check_greatest(graph, independence_number, maximum_independent_sets, is_independent_plainly)

    def test_maximal_cliques(self):
        for graph in graphs():
            cliques = [part for part in nonempty(graph.size) if is_clique_plainly(graph, part)]
            known = sorted(part for part in cliques
                           if not any(set(part) < set(other) for other in cliques))
            self.assertEqual(maximal_cliques(graph), tuple(known))
            assert_tuples(self, maximal_cliques(graph))

    def test_maximal_cliques_of_several_sizes_ascend(self):
        graph = Graph(4, ((0, 3), (1, 2), (1, 3), (2, 3)))
        self.assertEqual(maximal_cliques(graph), ((0, 3), (1, 2, 3)))
        self.assertEqual(maximal_cliques(Graph.complete(3) + Graph.edgeless(1)), ((0, 1, 2), (3,)))

    def test_8_vertices_all_edges_and_none(self):
        whole = tuple(range(8))
        singles = tuple((vertex,) for vertex in whole)
        for graph, other in ((Graph.complete(8), Graph.edgeless(8)),):
            self.assertEqual((clique_number(graph), independence_number(graph)), (8, 1))
            self.assertEqual((clique_number(other), independence_number(other)), (1, 8))
            self.assertEqual((maximum_cliques(graph), maximum_independent_sets(graph)), ((whole,), singles))
            self.assertEqual((maximum_cliques(other), maximum_independent_sets(other)), (singles, (whole,)))
            self.assertEqual((maximal_cliques(graph), maximal_cliques(other)), ((whole,), singles))

    def test_9_vertices_and_more(self):
        for call in EXHAUSTIVE:
            for size in (9, 24):
                assert_error(self, TooLarge, lambda: call(Graph.cycle(size)), what="vertices")
                assert_error(self, TooLarge, lambda: call(graph=Graph.edgeless(size)), what="vertices")

    def test_called_again(self):
        for graph in small_imperfect_graphs():
            for call in EXHAUSTIVE:
                self.assertEqual(call(graph), call(graph=graph))


if __name__ == "__main__":
    unittest.main()
