"""The example of chapter 1, what its sentences in bold type say, and [2] for all functions together."""

import unittest

from everypart.bipartite import odd_cycle, sides
from everypart.chordal import chordless_cycle, elimination_order, is_chordless_cycle, is_elimination_order
from everypart.cliques import (clique_number, independence_number, is_clique, is_independent, maximal_cliques,
                               maximum_cliques, maximum_independent_sets)
from everypart.cliquetrees import clique_tree, is_clique_tree
from everypart.cographs import cotree, cotree_graph, path_of_four
from everypart.colorings import chromatic_number, greedy_coloring, is_coloring, normal_form, optimal_coloring
from everypart.covers import clique_cover_number, is_clique_cover, optimal_clique_cover
from everypart.desk import Desk
from everypart.errors import TooLarge, Undefined
from everypart.fractional import is_fractional_clique, is_fractional_cover
from everypart.graphs import Graph
from everypart.graphtexts import read_graph, write_graph
from everypart.intervals import interval_graph
from everypart.matchings import maximum_matching, vertex_cover
from everypart.minimal import clique_pairs, is_minimal_imperfect, minimal_imperfect_subsets, partitions_without
from everypart.papers import (circular_paper, imperfection_paper, is_imperfection_paper, is_perfection_paper,
                              perfection_paper)
from everypart.perfect import first_bad_subset, first_large_subset, is_perfect
from everypart.permutations import inversion_graph
from everypart.polynomials import chromatic_polynomial, coloring_count
from everypart.posets import Poset, comparability_graph
from everypart.shares import Share
from everypart.splits import split_obstacle, split_partition, threshold_obstacle, threshold_order
from everypart.weights import clique_weight, cover_number, heaviest_cliques, is_cover, optimal_cover, perfect_cover
from tests.helpers import (all_graphs, assert_error, assert_tuples, chordal_graphs, some_graphs,
                           values_of_all_kinds)

EXHAUSTIVE = (clique_number, independence_number, maximum_cliques, maximum_independent_sets, maximal_cliques,
              chromatic_number, optimal_coloring, clique_cover_number, optimal_clique_cover, is_perfect,
              first_bad_subset, first_large_subset, is_minimal_imperfect, minimal_imperfect_subsets, clique_pairs,
              imperfection_paper, perfection_paper)
FOUND = (elimination_order, chordless_cycle, sides, odd_cycle, cotree, path_of_four, split_obstacle, threshold_order,
         threshold_obstacle, maximum_matching, vertex_cover, clique_tree)
# What is asked of any value at all, for graphs of any size and for small ones.
JUDGED = (is_clique_cover, is_imperfection_paper, is_chordless_cycle,
          lambda graph, value: is_cover(graph, (1,) * graph.size, value),
          lambda graph, value: is_fractional_cover(graph, (1,) * graph.size, value),
          lambda graph, value: value in graph)
JUDGED_EXHAUSTIVE = (is_perfection_paper, is_fractional_clique, is_clique_tree)
ASKED_EXHAUSTIVE = (split_partition, chromatic_polynomial, lambda graph: coloring_count(graph, 3),
                    lambda graph: clique_weight(graph, (40,) * graph.size),
                    lambda graph: heaviest_cliques(graph, (0,) * graph.size),
                    lambda graph: cover_number(graph, (1,) * 8 + (0,) * (graph.size - 8)),
                    lambda graph: optimal_cover(graph, (1,) * 8 + (0,) * (graph.size - 8)),
                    lambda graph: perfect_cover(graph, (40,) * graph.size),
                    lambda graph: partitions_without(graph, 0), lambda graph: Desk(graph).run("numbers"))


class OverviewTest(unittest.TestCase):

    def test_example(self):
        ring = Graph.cycle(5)
        self.assertEqual((is_perfect(ring), is_perfect(~ring), is_perfect(Graph.cycle(6)),
                          first_bad_subset(ring + Graph.path(2))), (False, False, True, (0, 1, 2, 3, 4)))
        self.assertEqual(clique_pairs(ring)[:2], (((0, 1), (2, 4)), ((0, 4), (1, 3))))

    def test_perfect_exactly_if_no_subset_is_large_and_if_the_complement_is(self):
        for graph in list(all_graphs(5))[::3] + list(some_graphs(8, 40)):
            self.assertIs(is_perfect(graph), first_large_subset(graph) is None)
            self.assertIs(is_perfect(graph), is_perfect(~graph))
            self.assertGreaterEqual(chromatic_number(graph), clique_number(graph))

    def test_each_minimal_subset_pairs_off(self):
        seen = 0
        for graph in list(all_graphs(5)) + list(some_graphs(7, 80)) + list(some_graphs(8, 80)):
            for subset in minimal_imperfect_subsets(graph):
                inner = graph.induced(subset)
                self.assertIs(is_minimal_imperfect(inner), True)
                n = clique_number(inner) * independence_number(inner) + 1
                self.assertEqual((inner.size, len(maximum_cliques(inner)), len(maximum_independent_sets(inner)),
                                  len(clique_pairs(inner))), (n, n, n, n))
                seen += 1
        self.assertGreater(seen, 12)


class AllFunctionsTest(unittest.TestCase):

    def test_exhaustive_ones_at_8_and_above(self):
        small, large = Graph.path(8), Graph.path(9)
        for call in EXHAUSTIVE:
            if call not in (clique_pairs, imperfection_paper):
                self.assertEqual(call(small), call(small))
            assert_error(self, TooLarge, lambda: call(large), what="vertices")
        for call in ASKED_EXHAUSTIVE:
            for graph in (large, Graph.cycle(9), Graph.complete(24)):
                assert_error(self, TooLarge, lambda: call(graph), what="vertices")
        partial = Graph.path(1) + Graph.cycle(7)
        self.assertEqual(imperfection_paper(partial), imperfection_paper(partial))
        self.assertEqual(perfection_paper(small), perfection_paper(Graph(8, list(small.edges))))

    def test_any_value_at_all_may_be_asked_about(self):
        for graph in (Graph.path(3), Graph.complete(8), Graph.cycle(24)):
            for value in values_of_all_kinds():
                for call in JUDGED:
                    self.assertIs(call(graph, value), False, value)
                for call in JUDGED_EXHAUSTIVE:
                    if graph.size <= 8:
                        self.assertIs(call(graph, value), False, value)
                    else:
                        assert_error(self, TooLarge, lambda: call(graph, value), what="vertices")

    def test_what_is_found_in_graphs_of_any_size_is_tuples(self):
        graphs = list(chordal_graphs())[:4] + list(some_graphs(24, 6)) + list(some_graphs(6, 20))
        for graph in graphs + [Graph.cycle(24), Graph.path(24), Graph.edgeless(24), Graph.complete(24)]:
            for call in FOUND:
                try:
                    answer = call(graph)
                except Undefined as error:
                    assert_error(self, Undefined, lambda: call(graph), what=error.what)
                    continue
                if call is cotree:
                    self.assertEqual(cotree_graph(answer), graph)
                else:
                    assert_tuples(self, answer)
                self.assertEqual(call(Graph(graph.size, list(graph.edges))), answer)
            self.assertEqual(read_graph(write_graph(graph)), graph)

    def test_graphs_are_perfect_that_other_modules_make(self):
        graphs = [interval_graph([(0, 3), (1, 5), (2, 2), (4, 9), (5, 6), (6, 8), (7, 9)]),
                  inversion_graph((3, 0, 6, 2, 7, 1, 5, 4)),
                  comparability_graph(Poset(7, ((0, 3), (1, 3), (1, 4), (2, 6), (3, 5), (4, 6))))]
        for graph in graphs:
            self.assertIs(is_perfect(graph), True)
            self.assertIs(is_perfect(~graph), True)

    def test_graphs_of_recognized_kinds_are_perfect(self):
        for graph in list(all_graphs(5))[::4] + list(some_graphs(8, 80)):
            for call in (elimination_order, sides, cotree, split_partition, threshold_order, clique_tree):
                try:
                    call(graph)
                except Undefined:
                    continue
                self.assertIs(is_perfect(graph), True)
            if is_perfect(graph):
                self.assertEqual(clique_weight(graph, (1,) * graph.size), cover_number(graph, (1,) * graph.size))

    def test_what_tells_whether_is_a_bool(self):
        five, four = Graph.cycle(5), Graph.cycle(4)
        answers = [is_clique(five, (0, 1)), is_clique(five, (0, 2)), is_independent(five, (0, 1)), is_clique(five, ()),
                   is_coloring(four, (0, 1, 0, 1)), is_coloring(four, (0,) * 4), is_clique_cover(four, ()),
                   is_clique_cover(four, ((0, 1), (2, 3))), is_perfect(five), is_perfect(four), (0, 1) in four,
                   is_minimal_imperfect(five), is_minimal_imperfect(four),
                   is_imperfection_paper(five, circular_paper(2, 2)), is_imperfection_paper(five, ()),
                   is_perfection_paper(four, perfection_paper(four)),
                   is_perfection_paper(four, ()), four == five, four != five, is_elimination_order(four, (0, 1, 2, 3)),
                   is_chordless_cycle(four, (0, 1, 2, 3)), is_cover(four, (1,) * 4, ()), is_cover(four, (0,) * 4, ()),
                   is_fractional_cover(four, (0,) * 4, ()), is_fractional_clique(four, (Share(1, 2),) * 4),
                   is_fractional_clique(four, ()), is_clique_tree(four, ()), Share(1, 2) == Share(2, 4),
                   Share(1, 2) == 1, Share(1, 2) != 1, Share(1, 2).is_below(Share(0, 1)), Poset(2, ()).is_below(0, 1)]
        for answer in answers:
            self.assertIs(answer.__class__, bool)

    def test_arguments_stay(self):
        graph = Graph.cycle(5)
        subset, coloring, order = (0, 2), (0, 1, 0, 1, 2), (4, 3, 2, 1, 0)
        paper = list(imperfection_paper(graph))
        before = (subset, coloring, order, list(paper))
        for call in EXHAUSTIVE[:-1]:
            call(graph)
        is_clique(graph, subset), is_coloring(graph, coloring), normal_form(coloring), greedy_coloring(graph, order)
        is_imperfection_paper(graph, paper), is_perfection_paper(graph, paper), is_clique_cover(graph, paper)
        partitions_without(graph, 3)
        self.assertEqual((subset, coloring, order, paper), before)
        self.assertEqual(graph, Graph(5, ((0, 1), (0, 4), (1, 2), (2, 3), (3, 4))))
        self.assertEqual((list(graph), graph.degrees), ([0, 1, 2, 3, 4], (2,) * 5))


if __name__ == "__main__":
    unittest.main()
