"""Promise [13]: papers of imperfect and of perfect graphs."""

import unittest

from everypart.errors import InvalidNumber, TooLarge, Undefined
from everypart.graphs import Graph
from everypart.minimal import clique_pairs
from everypart.papers import (circular_paper, imperfection_paper, is_imperfection_paper, is_perfection_paper,
                              perfection_paper)
from everypart.perfect import first_bad_subset, is_perfect
from tests.helpers import (all_graphs, assert_error, assert_keeps, assert_tuples, graphs_up_to, is_clique_plainly,
                           is_independent_plainly, is_plain_subset, joined, nested, nonempty, renumbered,
                           small_imperfect_graphs, some_graphs, values_of_all_kinds, variants)


def is_pair_plainly(value):
    return value.__class__ is tuple and len(value) == 2


def is_part_plainly(graph, value, whole, judge):
    return (is_plain_subset(value, graph.size) and value != () and set(value) <= set(whole) and judge(graph, value))


def imperfection_plainly(graph, paper):
    if not is_pair_plainly(paper) or not is_plain_subset(paper[0], graph.size) or paper[1].__class__ is not tuple:
        return False
    whole, pairs = paper
    if len(whole) != len(pairs) or not whole:
        return False
    for pair in pairs:
        if not is_pair_plainly(pair) or not is_part_plainly(graph, pair[0], whole, is_clique_plainly):
            return False
        if not is_part_plainly(graph, pair[1], whole, is_independent_plainly):
            return False
    ws, sizes = {len(pair[0]) for pair in pairs}, {len(pair[1]) for pair in pairs}
    if len(ws) > 1 or len(sizes) > 1 or min(ws) < 2 or min(sizes) < 2 or min(ws) * min(sizes) + 1 != len(whole):
        return False
    return all(bool(set(pairs[i][0]) & set(pairs[j][1])) == (i != j)
               for i in range(len(pairs)) for j in range(len(pairs)))


def perfection_plainly(graph, paper):
    subsets = nonempty(graph.size)
    if paper.__class__ is not tuple or len(paper) != len(subsets):
        return False
    for part, pair in zip(subsets, paper):
        if not is_pair_plainly(pair) or not is_part_plainly(graph, pair[0], part, is_clique_plainly):
            return False
        colors = pair[1]
        if colors.__class__ is not tuple or len(colors) != len(part):
            return False
        if any(color.__class__ is not int or not 0 <= color < 24 for color in colors):
            return False
        if len(set(colors)) != len(pair[0]):
            return False
        if any(colors[i] == colors[j] and joined(graph, part[i], part[j])
               for i in range(len(part)) for j in range(i)):
            return False
    return True


class ImperfectionTest(unittest.TestCase):

    def test_papers_of_imperfect_graphs(self):
        more = [graph for graph in list(some_graphs(7, 80)) + list(some_graphs(8, 80)) if not is_perfect(graph)]
        self.assertGreater(len(more), 5)
        for graph in small_imperfect_graphs() + more:
            paper = imperfection_paper(graph)
            subset, pairs = paper
            self.assertEqual(subset, first_bad_subset(graph))
            inner = clique_pairs(graph.induced(subset))
            self.assertEqual(pairs, tuple((tuple(subset[v] for v in clique), tuple(subset[v] for v in missed))
                                          for clique, missed in inner))
            assert_tuples(self, paper)
            self.assertTrue(imperfection_plainly(graph, paper))
            self.assertIs(is_imperfection_paper(graph, paper), True)
            self.assertEqual(imperfection_paper(graph=graph), paper)
            assert_error(self, Undefined, lambda: perfection_paper(graph), what="paper")

    def test_told_in_the_vertices_of_the_graph(self):
        self.assertEqual(imperfection_paper(Graph.path(2) + Graph.cycle(5)),
                         ((2, 3, 4, 5, 6), (((2, 3), (4, 6)), ((2, 6), (3, 5)), ((3, 4), (2, 5)), ((4, 5), (3, 6)),
                                            ((5, 6), (2, 4)))))

    def test_just_one_kind_of_paper(self):
        for graph in list(graphs_up_to(4)) + list(all_graphs(5))[::8] + list(some_graphs(8, 10)):
            if is_perfect(graph):
                assert_error(self, Undefined, lambda: imperfection_paper(graph), what="paper")
                self.assertIs(is_perfection_paper(graph, perfection_paper(graph)), True)
            else:
                assert_error(self, Undefined, lambda: perfection_paper(graph), what="paper")
                self.assertIs(is_imperfection_paper(graph, imperfection_paper(graph)), True)

    def test_9_vertices_and_more(self):
        for graph in (Graph.cycle(9), Graph.complete(9), Graph.edgeless(24)):
            for call in (imperfection_paper, perfection_paper):
                assert_error(self, TooLarge, lambda: call(graph), what="vertices")
            for value in [(), None, True, imperfection_paper(Graph.cycle(5)), nested(0, 10)]:
                assert_error(self, TooLarge, lambda: is_perfection_paper(graph, value), what="vertices")


class JudgingImperfectionTest(unittest.TestCase):

    def check_variants(self, graph, paper, swaps):
        """Judge the paper with one place changed; so many of these are right: two whole pairs exchanged."""
        self.assertIs(is_imperfection_paper(graph, paper), True)
        right = 0
        for value in variants(paper):
            known = imperfection_plainly(graph, value)
            self.assertIs(is_imperfection_paper(graph=graph, paper=value), known, value)
            right += known
        self.assertEqual(right, swaps)

    def test_one_place_changed(self):
        for graph, swaps in ((Graph.cycle(5), 10), (Graph.path(1) + Graph.cycle(5), 10), (Graph.cycle(7), 21),
                             (~Graph.cycle(7), 21), (Graph.cycle(7) * Graph.path(1), 21)):
            self.check_variants(graph, imperfection_paper(graph), swaps)

    def test_sets_of_two_pairs_exchanged(self):
        for graph in (Graph.cycle(5), ~Graph.cycle(7)):
            subset, pairs = imperfection_paper(graph)
            for i in range(len(pairs)):
                for j in range(i):
                    changed = list(pairs)
                    changed[i], changed[j] = (pairs[i][0], pairs[j][1]), (pairs[j][0], pairs[i][1])
                    self.assertIs(is_imperfection_paper(graph, (subset, tuple(changed))), False)

    def test_pairs_in_another_order(self):
        subset, pairs = imperfection_paper(Graph.cycle(5))
        self.assertIs(is_imperfection_paper(Graph.cycle(5), (subset, pairs[::-1])), True)
        self.assertIs(is_imperfection_paper(Graph.cycle(5), (subset[::-1], pairs)), False)

    def test_the_subset_must_hold_the_sets(self):
        graph = Graph.cycle(5) + Graph.path(1)
        subset, pairs = imperfection_paper(graph)
        self.assertIs(is_imperfection_paper(graph, (subset, pairs)), True)
        for other in ((0, 1, 2, 3, 5), (1, 2, 3, 4, 5), (0, 1, 2, 3), (0, 1, 2, 3, 4, 5), (0, 1, 2, 3, 6)):
            self.assertIs(is_imperfection_paper(graph, (other, pairs)), False)

    def test_both_sizes_from_2_on(self):
        # With sets of one vertex, the pairs of these graphs would pair off otherwise.
        for graph, pairs in ((Graph.complete(3), (((1, 2), (0,)), ((0, 2), (1,)), ((0, 1), (2,)))),
                             (Graph.edgeless(3), (((0,), (1, 2)), ((1,), (0, 2)), ((2,), (0, 1)))),
                             (Graph.complete(2), (((0,), (1,)), ((1,), (0,))))):
            paper = (tuple(range(graph.size)), pairs)
            self.assertFalse(imperfection_plainly(graph, paper))
            self.assertIs(is_imperfection_paper(graph, paper), False)

    def test_the_edges_must_fit(self):
        paper = imperfection_paper(Graph.cycle(5))
        for graph in list(all_graphs(5))[::3] + list(some_graphs(8, 10)):
            self.assertIs(is_imperfection_paper(graph, paper), imperfection_plainly(graph, paper))
        self.assertIs(is_imperfection_paper(~Graph.cycle(5), paper), False)
        self.assertIs(is_imperfection_paper(Graph.complete(5), paper), False)
        self.assertIs(is_imperfection_paper(Graph.path(4), paper), False)

    def test_other_kinds(self):
        for graph in (Graph.cycle(5), Graph.path(1), Graph.cycle(24)):
            for value in values_of_all_kinds() + [(), ((), ()), ((0,), ()), ((0,), ((),)), ((0,), (((0,), (0,)),)), 0,
                                                  ((0, 1, 2, 3, 4), ()), ((0, 1, 2, 3, 4), ((),) * 5), graph,
                                                  ((0, 1, 2, 3, 4), (0, 1, 2, 3, 4)), ((0, 1, 2, 3, 4), "01234"),
                                                  ((0, 1, 2, 3, 4), (((), ()),) * 5)]:
                self.assertIs(is_imperfection_paper(graph, value), False, value)

    def test_graphs_of_24_vertices(self):
        paper = circular_paper(2, 11)
        graph = Graph.cycle(23) + Graph.path(1)
        self.assertIs(is_imperfection_paper(graph, paper), True)
        self.assertIs(is_imperfection_paper(Graph.cycle(24), paper), False)
        moved = renumbered(graph, tuple(range(1, 24)) + (0,))
        self.assertIs(is_imperfection_paper(moved, paper), False)
        self.assertIs(is_imperfection_paper(graph, (tuple(range(24)), paper[1])), False)


class CircularTest(unittest.TestCase):

    def test_all_circular_papers(self):
        for w in range(2, 12):
            for a in range(2, 12):
                size = a * w + 1
                if size > 24:
                    assert_error(self, TooLarge, lambda: circular_paper(w, a), what="vertices")
                    continue
                paper = circular_paper(w, a)
                known = sorted((tuple(sorted((j - k) % size for k in range(1, w + 1))),
                                tuple(sorted((j + k * w) % size for k in range(a)))) for j in range(size))
                self.assertEqual(paper, (tuple(range(size)), tuple(known)))
                assert_tuples(self, paper)
                self.assertEqual(circular_paper(w=w, a=a), paper)
                self.assertTrue(imperfection_plainly(Graph.circular(w, a), paper))
                self.assertIs(is_imperfection_paper(Graph.circular(w, a), paper), True)

    def test_ring_of_five(self):
        self.assertEqual(circular_paper(2, 2), imperfection_paper(Graph.cycle(5)))

    def test_errors(self):
        for value in [1, 0, -1, True, False, None, "2", (2,), [2], (), nested(2, 10), Graph.path(2)]:
            assert_keeps(self, InvalidNumber, "value", value, lambda w: circular_paper(w, 2))
            assert_keeps(self, InvalidNumber, "value", value, lambda w: circular_paper(w, None))
            assert_keeps(self, InvalidNumber, "value", value, lambda a: circular_paper(2, a))
            assert_keeps(self, InvalidNumber, "value", value, lambda a: circular_paper(100, a))
        for w, a in ((2, 12), (12, 2), (5, 5), (4, 6), (24, 24), (10 ** 30, 2)):
            assert_error(self, TooLarge, lambda: circular_paper(w, a), what="vertices")
        self.assertEqual(len(circular_paper(11, 2)[1]), 23)


class PerfectionTest(unittest.TestCase):

    def test_papers_of_perfect_graphs(self):
        perfect = [graph for graph in list(graphs_up_to(4)) + list(all_graphs(5))[::6] + list(some_graphs(8, 8)) +
                   [Graph.complete(8), Graph.edgeless(8), Graph.cycle(8), ~Graph.cycle(8)] if is_perfect(graph)]
        for graph in perfect:
            paper = perfection_paper(graph)
            assert_tuples(self, paper)
            self.assertTrue(perfection_plainly(graph, paper))
            self.assertIs(is_perfection_paper(graph, paper), True)
            self.assertEqual(perfection_paper(graph=graph), paper)

    def test_one_place_changed(self):
        for graph in (Graph.path(1), Graph.path(2), Graph.edgeless(2), Graph.path(3), Graph.cycle(4)):
            paper = perfection_paper(graph)
            for value in variants(paper):
                known = perfection_plainly(graph, value)
                self.assertIs(is_perfection_paper(graph=graph, paper=value), known, value)

    def test_8_vertices_with_one_place_changed(self):
        graph = Graph.cycle(8)
        paper = perfection_paper(graph)
        last = paper[-1]
        for value in (paper[:-1], paper + (last,), paper[:-2] + (last, paper[-2]), paper[:-1] + (list(last),),
                      paper[:-1] + ((last[0], (0,) * 8),), paper[:-1] + ((last[0], (0, 1, 2, 1) * 2),),
                      paper[:-1] + (((0, 2), last[1]),), paper[:-1] + (((0,), last[1]),), list(paper)):
            self.assertIs(is_perfection_paper(graph, value), False)
        self.assertIs(is_perfection_paper(graph, paper[:-1] + (((6, 7), (23, 5) * 4),)), True)
        self.assertIs(is_perfection_paper(graph, paper[:-1] + (((6, 7), (24, 5) * 4),)), False)
        self.assertIs(is_perfection_paper(graph, paper[:-1] + (((0, 7), (True, 0) * 4),)), False)

    def test_colors_need_no_normal_form(self):
        self.assertIs(is_perfection_paper(Graph.path(1), (((0,), (23,)),)), True)
        self.assertIs(is_perfection_paper(Graph.path(1), (((0,), (24,)),)), False)
        self.assertIs(is_perfection_paper(Graph.path(1), (((0,), (-1,)),)), False)
        self.assertIs(is_perfection_paper(Graph.path(1), (((False,), (0,)),)), False)
        self.assertIs(is_perfection_paper(Graph.path(1), (((0,), (False,)),)), False)

    def test_the_clique_stands_within_the_subset(self):
        graph = Graph.edgeless(2)
        right = (((0,), (0,)), ((1,), (0,)), ((1,), (0, 0)))
        self.assertIs(is_perfection_paper(graph, right), True)
        self.assertIs(is_perfection_paper(graph, (((1,), (0,)),) + right[1:]), False)
        self.assertIs(is_perfection_paper(graph, (((), (0,)),) + right[1:]), False)
        self.assertIs(is_perfection_paper(graph, right[:2] + (((0, 1), (0, 1)),)), False)
        self.assertIs(is_perfection_paper(graph, right[:2] + (((0,), (0, 1)),)), False)

    def test_other_kinds(self):
        for graph in (Graph.path(1), Graph.path(2), Graph.cycle(5), Graph.edgeless(8)):
            count = 2 ** graph.size - 1
            for value in values_of_all_kinds() + [(), 0, (0,) * count, ((),) * count, (((), ()),) * count, [()] * count,
                                                  "a" * count, (((0,), 0),) * count, ((0, (0,)),) * count, graph]:
                self.assertIs(is_perfection_paper(graph, value), perfection_plainly(graph, value), value)

    def test_imperfect_graphs_have_none(self):
        graph = Graph.cycle(5)
        paper = perfection_paper(Graph.path(5))
        self.assertIs(is_perfection_paper(Graph.path(5), paper), True)
        self.assertIs(is_perfection_paper(graph, paper), False)


if __name__ == "__main__":
    unittest.main()
