"""The interface: its names, where they are defined, and the names of their parameters."""

import importlib
import inspect
import unittest

ERRORS = ("GraphError", "InvalidNumber", "InvalidGraph", "InvalidSubset", "InvalidColoring", "InvalidOrder",
          "InvalidWeights", "InvalidTree", "InvalidIntervals", "InvalidText", "InvalidCommand", "UnknownCommand",
          "TooLarge", "Undefined", "NothingToUndo")
FUNCTIONS = {
    "subsets": ("is_subset(value, size)", "all_subsets(size)"),
    "cliques": ("is_clique(graph, subset)", "is_independent(graph, subset)", "clique_number(graph)",
                "independence_number(graph)", "maximum_cliques(graph)", "maximum_independent_sets(graph)",
                "maximal_cliques(graph)"),
    "colorings": ("is_coloring(graph, coloring)", "normal_form(coloring)", "optimal_coloring(graph)",
                  "greedy_coloring(graph, order)", "chromatic_number(graph)"),
    "covers": ("clique_cover_number(graph)", "optimal_clique_cover(graph)", "is_clique_cover(graph, value)"),
    "perfect": ("is_perfect(graph)", "first_bad_subset(graph)", "first_large_subset(graph)"),
    "minimal": ("is_minimal_imperfect(graph)", "minimal_imperfect_subsets(graph)", "clique_pairs(graph)",
                "partitions_without(graph, vertex)"),
    "papers": ("imperfection_paper(graph)", "circular_paper(w, a)", "perfection_paper(graph)",
               "is_imperfection_paper(graph, paper)", "is_perfection_paper(graph, paper)"),
    "weights": ("clique_weight(graph, weights)", "cover_number(graph, weights)", "heaviest_cliques(graph, weights)",
                "replicated(graph, weights)", "is_cover(graph, weights, cover)", "optimal_cover(graph, weights)",
                "perfect_cover(graph, weights)"),
    "trees": ("tree_graph(tree)",),
    "treecolors": ("tree_coloring(tree)", "tree_cover(tree, weights)"),
    "chordal": ("is_elimination_order(graph, order)", "is_chordless_cycle(graph, value)", "elimination_order(graph)",
                "chordless_cycle(graph)"),
    "bipartite": ("sides(graph)", "odd_cycle(graph)"),
    "cographs": ("cotree(graph)", "cotree_graph(value)", "path_of_four(graph)"),
    "splits": ("split_partition(graph)", "split_obstacle(graph)", "threshold_obstacle(graph)",
               "threshold_order(graph)"),
    "edgecolors": ("edge_coloring(left, right, edges)", "line_graph(left, right, edges)"),
    "intervals": ("interval_graph(intervals, closed)", "rooms(intervals, closed)", "busiest(intervals, closed)"),
    "fractional": ("fractional_number(graph, weights)", "fractional_cover(graph, weights)",
                   "fractional_clique(graph, weights)", "is_fractional_cover(graph, weights, value)",
                   "is_fractional_clique(graph, value)"),
    "matchings": ("maximum_matching(graph)", "vertex_cover(graph)"),
    "posets": ("comparability_graph(poset)", "chains(poset)", "levels(poset)", "largest_antichain(poset)",
               "longest_chain(poset)"),
    "permutations": ("inversion_graph(order)", "piles(order)", "longest_fall(order)"),
    "cliquetrees": ("clique_tree(graph)", "is_clique_tree(graph, value)"),
    "polynomials": ("coloring_count(graph, colors)", "chromatic_polynomial(graph)"),
    "graphtexts": ("write_graph(graph)", "read_graph(text)"),
    "desk": ("replayed_desk(graph, commands)",),
}
# For each class its file, the methods it defines itself, its class methods and its properties.
CLASSES = {
    "Graph": ("graphs", {"__init__": "(self, size, edges)", "neighbors": "(self, vertex)", "induced": "(self, subset)",
                         "__len__": "(self)", "__iter__": "(self)", "__contains__": "(self, value)",
                         "__eq__": "(self, other)", "__invert__": "(self)", "__add__": "(self, other)",
                         "__mul__": "(self, other)"},
              {"complete": "(size)", "edgeless": "(size)", "path": "(size)", "cycle": "(size)", "circular": "(w, a)"},
              ("degrees",)),
    "Share": ("shares", {"__init__": "(self, over, under)", "is_below": "(self, other)", "__eq__": "(self, other)",
                         "__add__": "(self, other)", "__sub__": "(self, other)", "__mul__": "(self, other)"},
              {"whole": "(number)"}, ()),
    "Poset": ("posets", {"__init__": "(self, size, pairs)", "is_below": "(self, a, b)"}, {}, ()),
    "Desk": ("desk", {"__init__": "(self, graph)", "run": "(self, command)"}, {}, ()),
}


def names_of(call):
    """The names of the parameters, told as in the document."""
    return "(" + ", ".join(inspect.signature(call).parameters) + ")"


class InterfaceTest(unittest.TestCase):

    def test_errors(self):
        module = importlib.import_module("everypart.errors")
        for name in ERRORS:
            self.assertTrue(inspect.isclass(getattr(module, name)))
            self.assertEqual(getattr(module, name).__module__, "everypart.errors")

    def test_functions(self):
        for file, signatures in FUNCTIONS.items():
            module = importlib.import_module("everypart." + file)
            for signature in signatures:
                call = getattr(module, signature.split("(")[0])
                self.assertTrue(inspect.isfunction(call), signature)
                self.assertEqual(call.__name__ + names_of(call), signature)
                self.assertEqual(call.__module__, "everypart." + file)

    def test_closed_is_given_by_name_alone(self):
        module = importlib.import_module("everypart.intervals")
        for name in ("interval_graph", "rooms", "busiest"):
            parameter = inspect.signature(getattr(module, name)).parameters["closed"]
            self.assertIs(parameter.kind, inspect.Parameter.KEYWORD_ONLY)
            self.assertIs(parameter.default, True)

    def test_classes(self):
        for name, (file, methods, class_methods, properties) in CLASSES.items():
            own = getattr(importlib.import_module("everypart." + file), name)
            self.assertTrue(inspect.isclass(own))
            self.assertEqual(own.__module__, "everypart." + file)
            for method, parameters in methods.items():
                self.assertTrue(inspect.isfunction(vars(own)[method]), (name, method))
                self.assertEqual(names_of(vars(own)[method]), parameters, (name, method))
            for method, parameters in class_methods.items():
                self.assertIsInstance(vars(own)[method], classmethod)
                self.assertEqual(names_of(getattr(own, method)), parameters, (name, method))
            for member in properties:
                self.assertIsInstance(vars(own)[member], property)

    def test_attributes_are_set_on_each_object(self):
        for file, name, arguments, attributes in (
                ("graphs", "Graph", (2, ((0, 1),)), ("size", "edges")), ("shares", "Share", (2, 4), ("over", "under")),
                ("posets", "Poset", (2, ((1, 0),)), ("size", "pairs"))):
            made = getattr(importlib.import_module("everypart." + file), name)(*arguments)
            for attribute in attributes:
                self.assertIn(attribute, vars(made))
        graph = importlib.import_module("everypart.graphs").Graph(1, ())
        made = importlib.import_module("everypart.desk").Desk(graph)
        self.assertEqual((vars(made)["graph"], vars(made)["commands"]), (graph, ()))


if __name__ == "__main__":
    unittest.main()
