"""The example of chapter 1, what its sentences in bold type say, and [2] for all functions together."""

import unittest

from everypart.cliques import (clique_number, independence_number, is_clique, is_independent, maximal_cliques,
                               maximum_cliques, maximum_independent_sets)
from everypart.colorings import chromatic_number, greedy_coloring, is_coloring, normal_form, optimal_coloring
from everypart.covers import clique_cover_number, is_clique_cover, optimal_clique_cover
from everypart.errors import TooLarge
from everypart.graphs import Graph
from everypart.minimal import clique_pairs, is_minimal_imperfect, minimal_imperfect_subsets, partitions_without
from everypart.papers import (circular_paper, imperfection_paper, is_imperfection_paper, is_perfection_paper,
                              perfection_paper)
from everypart.perfect import first_bad_subset, first_large_subset, is_perfect
from tests.helpers import all_graphs, assert_error, some_graphs

EXHAUSTIVE = (clique_number, independence_number, maximum_cliques, maximum_independent_sets, maximal_cliques,
              chromatic_number, optimal_coloring, clique_cover_number, optimal_clique_cover, is_perfect,
              first_bad_subset, first_large_subset, is_minimal_imperfect, minimal_imperfect_subsets, clique_pairs,
              imperfection_paper, perfection_paper)


class OverviewTest(unittest.TestCase):

    def test_example(self):
        ring = Graph.cycle(5)
        self.assertEqual((is_perfect(ring), is_perfect(~ring), is_perfect(Graph.cycle(6)),
                          first_bad_subset(ring + Graph.path(2))), (False, False, True, (0, 1, 2, 3, 4)))
        self.assertEqual(clique_pairs(ring)[:2], (((0, 1), (2, 4)), ((0, 4), (1, 3))))

    def test_perfect_exactly_if_no_subset_is_large_and_if_the_complement_is(self):
        for graph in list(all_graphs(5))[::3] + list(some_graphs(8, 40)):
            self.assertIs(is_perfect(graph), first_large_subset(graph) is None)
            self.assertIs(is_perfect(graph), is_perfect(~graph))
            self.assertGreaterEqual(chromatic_number(graph), clique_number(graph))

    def test_each_minimal_subset_pairs_off(self):
        seen = 0
        for graph in list(all_graphs(5)) + list(some_graphs(7, 80)) + list(some_graphs(8, 80)):
            for subset in minimal_imperfect_subsets(graph):
                inner = graph.induced(subset)
                self.assertIs(is_minimal_imperfect(inner), True)
                n = clique_number(inner) * independence_number(inner) + 1
                self.assertEqual((inner.size, len(maximum_cliques(inner)), len(maximum_independent_sets(inner)),
                                  len(clique_pairs(inner))), (n, n, n, n))
                seen += 1
        self.assertGreater(seen, 12)


class AllFunctionsTest(unittest.TestCase):

    def test_exhaustive_ones_at_8_and_above(self):
        small, large = Graph.path(8), Graph.path(9)
        for call in EXHAUSTIVE:
            if call not in (clique_pairs, imperfection_paper):
                self.assertEqual(call(small), call(small))
            assert_error(self, TooLarge, lambda: call(large), what="vertices")
        partial = Graph.path(1) + Graph.cycle(7)
        self.assertEqual(imperfection_paper(partial), imperfection_paper(partial))
        self.assertEqual(perfection_paper(small), perfection_paper(Graph(8, list(small.edges))))

    def test_what_tells_whether_is_a_bool(self):
        five, four = Graph.cycle(5), Graph.cycle(4)
        answers = [is_clique(five, (0, 1)), is_clique(five, (0, 2)), is_independent(five, (0, 1)), is_clique(five, ()),
                   is_coloring(four, (0, 1, 0, 1)), is_coloring(four, (0,) * 4), is_clique_cover(four, ((0, 1), (2, 3))),
                   is_clique_cover(four, ()), is_perfect(five), is_perfect(four), is_minimal_imperfect(five),
                   is_minimal_imperfect(four), is_imperfection_paper(five, circular_paper(2, 2)), (0, 1) in four,
                   is_imperfection_paper(five, ()), is_perfection_paper(four, perfection_paper(four)),
                   is_perfection_paper(four, ()), four == five, four != five]
        for answer in answers:
            self.assertIs(answer.__class__, bool)

    def test_arguments_stay(self):
        graph = Graph.cycle(5)
        subset, coloring, order = (0, 2), (0, 1, 0, 1, 2), (4, 3, 2, 1, 0)
        paper = list(imperfection_paper(graph))
        before = (subset, coloring, order, list(paper))
        for call in EXHAUSTIVE[:-1]:
            call(graph)
        is_clique(graph, subset), is_coloring(graph, coloring), normal_form(coloring), greedy_coloring(graph, order)
        is_imperfection_paper(graph, paper), is_perfection_paper(graph, paper), is_clique_cover(graph, paper)
        partitions_without(graph, 3)
        self.assertEqual((subset, coloring, order, paper), before)
        self.assertEqual(graph, Graph(5, ((0, 1), (0, 4), (1, 2), (2, 3), (3, 4))))
        self.assertEqual((list(graph), graph.degrees), ([0, 1, 2, 3, 4], (2,) * 5))


if __name__ == "__main__":
    unittest.main()
