"""Promise [16]: trees and their graphs."""

import unittest

from everypart.errors import InvalidTree, TooLarge
from everypart.graphs import Graph
from everypart.papers import is_imperfection_paper, circular_paper
from everypart.perfect import is_perfect
from everypart.trees import tree_graph
from tests.helpers import (all_graphs, assert_error, bad_plainly, exchanged, nested, small_imperfect_graphs,
                           some_graphs, values_of_all_kinds, variants)
from tests.tree_helpers import (APART, EDGE, FIVE, HOUSE, LEAF, LEAVES, PATH, RING, TRIANGLE, Wrong, complements,
                                plain_graph, random_trees, trees_of_all_words)

SEVENS = ("union", ("graph", 7, ()), ("union", ("graph", 7, ()), ("graph", 7, ())))


class TreesTest(unittest.TestCase):

    def check(self, tree):
        """The tree is judged, and its graph built, as by plain steps."""
        try:
            known = plain_graph(tree)
        except Wrong as wrong:
            with self.assertRaises(InvalidTree) as caught:
                tree_graph(tree)
            self.assertIs(caught.exception.__class__, InvalidTree)
            self.assertIs(caught.exception.value, wrong.args[0], tree)
            return
        if known.size > 24:
            assert_error(self, TooLarge, lambda: tree_graph(tree), what="vertices")
        else:
            self.assertEqual(tree_graph(tree=tree), Graph(known.size, known.pairs()), tree)

    def check_wrong(self, tree, node):
        """The first node that is none is this one itself."""
        with self.assertRaises(InvalidTree) as caught:
            tree_graph(tree)
        self.assertIs(caught.exception.value, node)


class RightTreesTest(TreesTest):

    def test_leaves(self):
        for size, edges in ((1, ()), (2, ()), (3, ((0, 2),)), (7, ((0, 6), (1, 2)))):
            self.assertEqual(tree_graph(("graph", size, edges)), Graph(size, edges))
        for graph in list(all_graphs(4)) + list(all_graphs(5))[::3] + list(some_graphs(7, 30)):
            self.check(("graph", graph.size, graph.edges))

    def test_examples(self):
        path = Graph.path(4)
        self.assertEqual(tree_graph(("union", PATH, TRIANGLE)), path + Graph.complete(3))
        self.assertEqual(tree_graph(("join", PATH, TRIANGLE)), path * Graph.complete(3))
        self.assertEqual(tree_graph(("complement", RING)), ~Graph.cycle(4))
        # The vertices 0, 2, 3 of the path are 0, 1, 2; those put in the place of 1 are 3 and 4.
        self.assertEqual(tree_graph(("put", PATH, 1, EDGE)), Graph(5, ((0, 3), (0, 4), (1, 2), (1, 3), (1, 4), (3, 4))))
        self.assertEqual(tree_graph(("put", LEAF, 0, PATH)), path)
        self.assertEqual(tree_graph(("put", PATH, 3, LEAF)), path)
        self.assertEqual(tree_graph(("put", PATH, 0, LEAF)), Graph(4, ((0, 1), (0, 3), (1, 2))))

    def test_gluing(self):
        one_vertex = ("glue", PATH, TRIANGLE, ((3, 1),))
        self.assertEqual(tree_graph(one_vertex), Graph(6, ((0, 1), (1, 2), (2, 3), (3, 4), (3, 5), (4, 5))))
        edge = ("glue", PATH, TRIANGLE, ((1, 2), (2, 0)))
        self.assertEqual(tree_graph(edge), Graph(5, ((0, 1), (1, 2), (1, 4), (2, 3), (2, 4))))
        four = ("graph", 4, ((0, 1), (0, 2), (0, 3), (1, 2), (1, 3), (2, 3)))
        self.assertEqual(tree_graph(("glue", four, four, ((0, 3), (2, 0), (3, 1)))),
                         Graph(5, ((0, 1), (0, 2), (0, 3), (0, 4), (1, 2), (1, 3), (2, 3), (2, 4), (3, 4))))
        self.assertEqual(tree_graph(("glue", four, four, ((0, 3), (1, 2), (2, 1), (3, 0)))), Graph.complete(4))
        self.assertEqual(tree_graph(("glue", LEAF, PATH, ((0, 1),))), Graph(4, ((0, 1), (0, 2), (2, 3))))
        self.assertEqual(tree_graph(("glue", PATH, LEAF, ((1, 0),))), Graph.path(4))

    def test_all_words(self):
        for tree in trees_of_all_words():
            self.check(tree)

    def test_many_trees(self):
        for tree in random_trees(250, 2, 24, seed=1) + random_trees(150, 4, 24, 12, seed=2):
            self.check(tree)

    def test_graphs_are_perfect(self):
        for tree in trees_of_all_words() + random_trees(120, 4, 8, 5, seed=3):
            graph = tree_graph(tree)
            if graph.size <= 8:
                self.assertIs(is_perfect(graph), True)
        for tree in random_trees(30, 4, 24, 9, seed=4):
            graph = tree_graph(tree)
            for start in range(0, graph.size - 7):
                self.assertIs(is_perfect(graph.induced(tuple(range(start, start + 8)))), True)
            for w, a in ((2, 2), (2, 3), (3, 2)):
                self.assertIs(is_imperfection_paper(graph, circular_paper(w, a)), False)

    def test_again_and_unchanged(self):
        for tree in trees_of_all_words():
            before = repr(tree)
            self.assertEqual(tree_graph(tree), tree_graph(tree))
            self.assertEqual(repr(tree), before)


class LimitsTest(TreesTest):

    def test_leaves_of_7_and_8_vertices(self):
        self.assertEqual(tree_graph(("graph", 7, ())), Graph.edgeless(7))
        for leaf in (("graph", 8, ()), ("graph", 8, ((0, 1),)), ("graph", 24, ()), ("graph", 25, ()), ("graph", 0, ()),
                     ("graph", -1, ()), ("graph", 10 ** 30, ())):
            self.check_wrong(leaf, leaf)
            self.check_wrong(("complement", ("union", LEAF, leaf)), leaf)

    def test_leaves_that_are_not_perfect(self):
        for graph in small_imperfect_graphs():
            leaf = ("graph", graph.size, graph.edges)
            self.check_wrong(leaf, leaf)
            self.check_wrong(("join", EDGE, ("complement", leaf)), leaf)
        for graph in some_graphs(7, 40):
            leaf = ("graph", graph.size, graph.edges)
            if bad_plainly(graph):
                self.check_wrong(leaf, leaf)
            else:
                self.assertEqual(tree_graph(leaf), graph)

    def test_24_and_25_vertices(self):
        fours = ("join", PATH, ("join", RING, ("join", PATH, ("join", RING, PATH))))
        for tree in (("union", SEVENS, TRIANGLE), ("join", fours, RING), ("put", SEVENS, 20, PATH),
                     ("glue", SEVENS, PATH, ((5, 0),)), ("complement", ("union", TRIANGLE, SEVENS))):
            self.assertEqual(tree_graph(tree).size, 24)
            self.check(tree)
        for tree in (("union", SEVENS, PATH), ("join", fours, HOUSE), ("put", SEVENS, 0, HOUSE),
                     ("glue", SEVENS, HOUSE, ((5, 0),)), ("complement", ("union", PATH, SEVENS)),
                     ("put", LEAF, 0, ("union", SEVENS, RING)), ("union", ("union", SEVENS, RING), fours)):
            for large in (tree, complements(tree, 3), ("put", LEAF, 0, tree), ("glue", tree, LEAF, ((24, 0),))):
                assert_error(self, TooLarge, lambda: tree_graph(large), what="vertices")

    def test_faults_are_told_ahead_of_size(self):
        large = ("join", SEVENS, ("union", PATH, RING))
        bad = ("graph", 2, ((1, 0),))
        self.check_wrong(("union", large, bad), bad)
        self.check_wrong(("union", bad, large), bad)
        for node in (("put", large, 29, LEAF), ("put", large, True, LEAF), ("glue", large, LEAF, ((29, 0),)),
                     ("glue", large, EDGE, ((0, 0), (1, 1))), ("glue", large, EDGE, ((0, 0), (21, 0))), ("pat", large)):
            self.check_wrong(node, node)
            self.check_wrong(("complement", node), node)
        for node in (("put", large, 28, LEAF), ("glue", large, LEAF, ((28, 0),)),
                     ("glue", large, EDGE, ((0, 1), (21, 0)))):
            assert_error(self, TooLarge, lambda: tree_graph(node), what="vertices")

    def test_large_graphs_are_judged_in_the_same_way(self):
        for tree in random_trees(60, 5, 90, 25, seed=5):
            self.check(tree)
        # What is joined in a graph of more than 24 vertices counts as well.
        large = ("put", ("union", SEVENS, PATH), 22, SEVENS)
        graph = plain_graph(large)
        for one in range(20, 30):
            for other in range(one + 1, graph.size):
                node = ("glue", large, EDGE, ((one, 0), (other, 1)))
                if graph.has(one, other):
                    assert_error(self, TooLarge, lambda: tree_graph(node), what="vertices")
                else:
                    self.check_wrong(node, node)
                self.check(("glue", EDGE, large, ((0, other), (1, one))))

    def test_sixty_nodes_deep(self):
        deep = complements(PATH, 59)
        self.assertEqual(tree_graph(deep), ~Graph.path(4))
        bad = ("graph", 2, [])
        self.check_wrong(complements(bad, 59), bad)
        tree = LEAF
        for _ in range(29):
            tree = ("glue", tree, EDGE, ((0, 1),)) if plain_graph(tree).size < 24 else ("put", LEAF, 0, tree)
        self.check(tree)
        for _ in range(40):
            tree = ("union", tree, LEAF)
        assert_error(self, TooLarge, lambda: tree_graph(tree), what="vertices")
        left = ("put", LEAF, 1, LEAF)
        tree = left
        for _ in range(28):
            tree = ("join", LEAF, tree)
        self.check_wrong(tree, left)


class WrongTreesTest(TreesTest):

    def test_one_place_changed(self):
        for tree in trees_of_all_words():
            for value in variants(tree):
                self.check(value)

    def test_values_of_all_kinds_in_each_place(self):
        others = values_of_all_kinds() + [LEAF, EDGE, 0, 1, 2, (), ("graph",), ("graph", 1), ("graph", 1, (), ()),
                                          ("complement",), ("complement", LEAF, LEAF), ("union", LEAF),
                                          ("union", LEAF, LEAF, LEAF), ("put", LEAF, 0), ("Graph", 1, ()), ("", LEAF),
                                          (0, LEAF), (None, LEAF), (True, LEAF), (("complement",), LEAF),
                                          ("glue", LEAF, LEAF), ("put", LEAF, LEAF, 0), (Graph.path(1), LEAF),
                                          (["complement"], LEAF), ["complement", LEAF], "complement", ("tree", LEAF)]
        for tree in trees_of_all_words():
            for value in exchanged(tree, others):
                self.check(value)

    def test_put(self):
        for vertex in (4, -1, True, False, None, "1", (1,), [1], 10 ** 30, Graph.path(1)):
            node = ("put", PATH, vertex, EDGE)
            self.check_wrong(node, node)
            self.check_wrong(("join", node, "leaf"), node)
        self.assertEqual(tree_graph(("put", PATH, 3, EDGE)).size, 5)

    def test_glue(self):
        for shared in ((), [(0, 0)], ((0, 0), (1, 0)), ((0, 0), (0, 1)), ((1, 0), (0, 1)), ((0, 0), (2, 1)), (0, 0),
                       ((0, 0), (1, 2), (2, 1)), ((4, 0),), ((0, 3),), ((-1, 0),), ((0, -1),), ((True, 0),),
                       ((0, True),),
                       ([0, 0],), ((0, 0, 0),), ((0,),), ((0, 0), None), None, 0, "00", (("0", 0),), ((0, None),),
                       ((),), ((0, 0), [1, 1]), (((0,), 0),), ((0, 0), (1, 1), (1, 1))):
            node = ("glue", PATH, TRIANGLE, shared)
            self.check_wrong(node, node)
        for shared in (((0, 0), (1, 1)), ((0, 1), (1, 0)), ((3, 2),)):
            self.check(("glue", PATH, TRIANGLE, shared))
        # Those of other must be joined, too.
        node = ("glue", TRIANGLE, PATH, ((0, 0), (1, 2)))
        self.check_wrong(node, node)
        self.check(("glue", TRIANGLE, PATH, ((0, 2), (1, 1))))

    def test_edges_of_leaves(self):
        for size, edges in ((2, [(0, 1)]), (2, ((1, 0),)), (2, ((0, 1), (0, 1))), (2, ([0, 1],)), (2, ((0, 2),)),
                            (2, ((0, True),)), (2, ((False, 1),)), (3, ((0, 2), (0, 1))), (2, None), (2, 0),
                            (2, ((0,),)),
                            (2, ((0, 1, 1),)), (2, "01"), (True, ()), ("2", ()), (None, ()), ((2,), ()), (2, (0, 1)),
                            (2, Graph.path(2)), (Graph.path(2), ()), (2, [])):
            leaf = ("graph", size, edges)
            self.check_wrong(leaf, leaf)

    def test_words_and_counts(self):
        for node in (("graphs", 1, ()), ("GRAPH", 1, ()), ("", 1, ()), ("graph ", 1, ()), ("graph", 1), ("graph",),
                     ("graph", 1, (), ()), ("union", LEAF), ("union", LEAF, LEAF, LEAF), ("join",), ("complement",),
                     ("complement", LEAF, LEAF), ("put", LEAF, 0), ("put", LEAF, 0, LEAF, LEAF), ("glue", LEAF, LEAF),
                     ("glue", LEAF, LEAF, ((0, 0),), ()), ["complement", LEAF], "complement", (), None, 0, True,
                     Graph.path(1), ("glued", LEAF, LEAF, ((0, 0),)), (("union",), LEAF, LEAF), (["union"], LEAF, LEAF),
                     nested(LEAF, 8)):
            self.check_wrong(node, node)
            self.check_wrong(("put", LEAF, 0, ("complement", node)), node)

    def test_what_has_no_form_has_none_within(self):
        bad = ("graph", 9, ())
        for node in (("union", bad), ("unions", bad, bad), ["union", bad, bad], ("put", bad, 0),
                     ("complement", bad, bad), (bad, "union", bad), ("glue", bad, bad)):
            self.check_wrong(node, node)
            self.check_wrong(("union", node, bad), node)

    def test_faults_in_two_nodes(self):
        first, second = ("graph", 9, ()), ("graph", 2, [])
        self.check_wrong(("union", first, second), first)
        self.check_wrong(("join", second, first), second)
        self.check_wrong(("put", first, None, second), first)
        self.check_wrong(("put", LEAF, None, second), second)
        self.check_wrong(("glue", first, second, None), first)
        self.check_wrong(("glue", LEAF, second, None), second)
        inner = ("put", LEAF, 1, LEAF)
        self.check_wrong(("put", inner, 7, LEAF), inner)
        self.check_wrong(("union", ("complement", ("union", LEAF, inner)), first), inner)
        self.check_wrong(("union", LEAF, ("put", LEAF, 1, first)), first)
        outer = ("glue", LEAF, ("put", LEAF, 0, LEAF), ())
        self.check_wrong(("join", outer, first), outer)
        self.check_wrong(("join", LEAF, ("join", 5, first)), 5)

    def test_like_nodes_are_told_apart(self):
        # Equal nodes at two places: the first one itself is told.
        one, other = ("graph", 9, tuple([])), tuple(["graph", 9, ()])
        self.check_wrong(("union", one, other), one)
        self.check_wrong(("put", LEAF, 0, ("union", other, one)), other)

    def test_two_random_faults(self):
        for tree in random_trees(12, 3, 24, 6, seed=6):
            for value in list(exchanged(tree, (None, True, 9)))[::7]:
                for again in list(exchanged(value, ((0, 0), LEAF)))[::11]:
                    self.check(again)


class ImperfectLeafTest(TreesTest):

    def test_a_ring_of_five(self):
        self.check_wrong(FIVE, FIVE)
        self.check_wrong(("complement", FIVE), FIVE)
        self.check_wrong(("put", EDGE, 0, ("union", APART, FIVE)), FIVE)
        for leaf in LEAVES:
            self.check(leaf)


if __name__ == "__main__":
    unittest.main()
