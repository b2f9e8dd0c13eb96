"""Promise [10]: covers by cliques."""

import unittest

from everypart.colorings import chromatic_number
from everypart.covers import clique_cover_number, is_clique_cover, optimal_clique_cover
from everypart.errors import TooLarge
from everypart.graphs import Graph
from tests.helpers import (all_graphs, assert_error, assert_tuples, fewest_colors, graphs_up_to, is_clique_plainly,
                           is_plain_subset, nonempty, small_imperfect_graphs, some_graphs, values_of_all_kinds, variants)


def graphs():
    return list(graphs_up_to(4)) + list(all_graphs(5))[::9] + list(some_graphs(8, 10)) + small_imperfect_graphs()


def is_cover_plainly(graph, value):
    if value.__class__ is not tuple:
        return False
    for member in value:
        if not is_plain_subset(member, graph.size) or not member or not is_clique_plainly(graph, member):
            return False
    if any(one >= other for one, other in zip(value, value[1:])):
        return False
    return all(sum(vertex in member for member in value) == 1 for vertex in range(graph.size))


class OptimalTest(unittest.TestCase):

    def test_number_is_that_of_the_complement(self):
        for graph in graphs():
            number = clique_cover_number(graph)
            self.assertEqual(number, fewest_colors(~graph, tuple(range(graph.size))))
            self.assertEqual(number, chromatic_number(~graph))
            self.assertIs(clique_cover_number(graph=graph).__class__, int)

    def test_optimal_cover(self):
        for graph in graphs():
            cover = optimal_clique_cover(graph)
            self.assertTrue(is_cover_plainly(graph, cover))
            self.assertEqual(len(cover), clique_cover_number(graph))
            assert_tuples(self, cover)
            self.assertEqual(cover, optimal_clique_cover(graph=Graph(graph.size, list(graph.edges))))

    def test_some_graphs(self):
        self.assertEqual(optimal_clique_cover(Graph.complete(8)), (tuple(range(8)),))
        self.assertEqual(optimal_clique_cover(Graph.edgeless(8)), tuple((vertex,) for vertex in range(8)))
        self.assertEqual(optimal_clique_cover(Graph.complete(3) + Graph.path(2)), ((0, 1, 2), (3, 4)))
        self.assertEqual([clique_cover_number(Graph.cycle(size)) for size in (3, 4, 5, 7, 8)], [1, 2, 3, 4, 4])

    def test_9_vertices_and_more(self):
        for call in (clique_cover_number, optimal_clique_cover):
            for size in (9, 24):
                assert_error(self, TooLarge, lambda: call(Graph.complete(size)), what="vertices")


class IsCoverTest(unittest.TestCase):

    def test_all_tuples_of_up_to_three_subsets(self):
        for graph in list(graphs_up_to(3)) + [Graph.path(4)]:
            parts = [()] + nonempty(graph.size)
            for one in parts:
                self.assertIs(is_clique_cover(graph, (one,)), is_cover_plainly(graph, (one,)))
                for two in parts:
                    self.assertIs(is_clique_cover(graph, (one, two)), is_cover_plainly(graph, (one, two)))
                    for three in parts:
                        value = (one, two, three)
                        self.assertIs(is_clique_cover(graph, value), is_cover_plainly(graph, value))

    def test_right_values_with_one_place_changed(self):
        for graph in list(some_graphs(5, 6)) + [Graph.cycle(5), Graph.edgeless(2), Graph.complete(2), Graph.path(8)]:
            cover = optimal_clique_cover(graph)
            self.assertIs(is_clique_cover(graph, cover), True)
            right = 0
            for value in variants(cover):
                known = is_cover_plainly(graph, value)
                self.assertIs(is_clique_cover(graph, value), known, value)
                right += known
            self.assertEqual(right, 0)

    def test_covers_that_are_not_optimal(self):
        self.assertIs(is_clique_cover(Graph.complete(3), ((0,), (1,), (2,))), True)
        self.assertIs(is_clique_cover(Graph.complete(3), ((0, 2), (1,))), True)
        self.assertIs(is_clique_cover(Graph.complete(3), ((1,), (0, 2))), False)

    def test_24_vertices(self):
        graph = Graph.path(24)
        cover = tuple((vertex, vertex + 1) for vertex in range(0, 24, 2))
        self.assertIs(is_clique_cover(graph=graph, value=cover), True)
        self.assertIs(is_clique_cover(graph, cover[:-1]), False)
        self.assertIs(is_clique_cover(graph, cover[:-1] + ((22,), (23,))), True)
        self.assertIs(is_clique_cover(~graph, cover), False)
        self.assertIs(is_clique_cover(Graph.complete(24), (tuple(range(24)),)), True)

    def test_other_kinds(self):
        for graph in (Graph.path(1), Graph.path(2), Graph.edgeless(2)):
            for value in values_of_all_kinds() + [(), ((),), ((), (0,)), ((0,), [1]), ([0, 1],), [(0, 1)], ((False,), (True,)),
                                                  ((False, True),), ((False,),), (0,), 0, ("01",), (graph,), graph]:
                self.assertIs(is_clique_cover(graph, value), is_cover_plainly(graph, value), value)


if __name__ == "__main__":
    unittest.main()
