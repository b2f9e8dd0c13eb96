"""Promise [11]: perfect graphs."""

import unittest

from everypart.errors import TooLarge
from everypart.graphs import Graph
from everypart.perfect import first_bad_subset, first_large_subset, is_perfect
from tests.helpers import (all_graphs, assert_error, assert_tuples, bad_plainly, graphs_up_to, is_clique_plainly,
                           is_independent_plainly, largest_plainly, nonempty, small_imperfect_graphs, some_graphs)


def first_large_plainly(graph):
    for part in nonempty(graph.size):
        bound = (largest_plainly(graph, part, is_clique_plainly) *
                 largest_plainly(graph, part, is_independent_plainly))
        if len(part) > bound:
            return part
    return None


class PerfectTest(unittest.TestCase):

    def check(self, graph):
        bad = bad_plainly(graph)
        known = bad[0] if bad else None
        self.assertEqual(first_bad_subset(graph), known)
        self.assertEqual(first_large_subset(graph), known)
        self.assertEqual(first_large_plainly(graph), known)
        self.assertIs(is_perfect(graph), known is None)
        self.assertIs(is_perfect(~graph), known is None)
        if known is not None:
            assert_tuples(self, first_bad_subset(graph))
            assert_tuples(self, first_large_subset(graph))

    def test_all_small_graphs(self):
        for graph in graphs_up_to(4):
            self.check(graph)
        imperfect = [graph for graph in all_graphs(5) if not is_perfect(graph)]
        self.assertEqual(len(imperfect), 12)
        for graph in imperfect:
            self.assertEqual(graph.degrees, (2,) * 5)
            self.check(graph)
        for graph in list(all_graphs(5))[::11]:
            self.check(graph)

    def test_larger_graphs(self):
        for graph in list(some_graphs(6, 20)) + list(some_graphs(7, 8)) + list(some_graphs(8, 8)):
            self.check(graph)

    def test_cycles_and_complements(self):
        for graph in small_imperfect_graphs():
            self.check(graph)
            self.assertIs(is_perfect(graph), False)
        for graph in (Graph.cycle(4), Graph.cycle(6), Graph.cycle(8), ~Graph.cycle(8), Graph.path(8), Graph.complete(8),
                      Graph.edgeless(8), Graph.complete(3) + Graph.cycle(4), Graph.path(4) * Graph.path(4)):
            self.check(graph)
            self.assertIs(is_perfect(graph=graph), True)

    def test_first_in_the_order_of_subsets(self):
        graph = Graph.path(3) + Graph.cycle(5)
        self.assertEqual(first_bad_subset(graph=graph), (3, 4, 5, 6, 7))
        self.assertEqual(first_large_subset(graph=graph), (3, 4, 5, 6, 7))
        wheel = Graph.cycle(5) * Graph.edgeless(3)
        self.assertEqual((first_bad_subset(wheel), first_large_subset(wheel)), ((0, 1, 2, 3, 4),) * 2)
        self.assertEqual(first_bad_subset(Graph.cycle(7) + Graph.path(1)), tuple(range(7)))
        replaced = Graph(6, ((0, 1), (0, 3), (0, 4), (1, 2), (1, 5), (2, 3), (2, 4), (3, 5), (4, 5)))
        self.check(replaced)

    def test_9_vertices_and_more(self):
        for call in (is_perfect, first_bad_subset, first_large_subset):
            for graph in (Graph.cycle(9), Graph.complete(9), Graph.edgeless(24), Graph.cycle(5) + Graph.path(4)):
                assert_error(self, TooLarge, lambda: call(graph), what="vertices")

    def test_called_again(self):
        for graph in small_imperfect_graphs():
            for call in (is_perfect, first_bad_subset, first_large_subset):
                self.assertEqual(call(graph), call(graph))


if __name__ == "__main__":
    unittest.main()
