"""Promise [25]: fractional covers and fractional cliques."""

import unittest
from fractions import Fraction

from everypart.cliques import independence_number
from everypart.errors import InvalidWeights, TooLarge
from everypart.fractional import (fractional_clique, fractional_cover, fractional_number, is_fractional_clique,
                                  is_fractional_cover)
from everypart.graphs import Graph
from everypart.minimal import is_minimal_imperfect
from everypart.perfect import is_perfect
from everypart.shares import Share
from everypart.weights import clique_weight, cover_number
from tests.helpers import (Dice, all_graphs, assert_error, assert_keeps, assert_tuples, exchanged, graphs_up_to,
                           independent_sets, is_independent_plainly, is_plain_subset, is_weights_plainly, renumbered,
                           some_graphs, values_of_all_kinds, variants)

FOUND = (fractional_number, fractional_cover, fractional_clique)
ONE, HALF, NONE = Share(1, 1), Share(1, 2), Share(0, 1)


def fraction_of(share):
    return Fraction(share.over, share.under)


def weights_of(graph, seed, values=(0, 1, 2, 3, 39, 40)):
    dice = Dice(seed)
    return tuple(dice.pick(values) for _ in graph)


def is_cover_plainly(graph, weights, value):
    """Whether a value of any kind is a fractional cover of right weights."""
    if value.__class__ is not tuple:
        return False
    totals = [Fraction(0)] * graph.size
    before = ()
    for pair in value:
        if pair.__class__ is not tuple or len(pair) != 2 or not is_plain_subset(pair[0], graph.size):
            return False
        if pair[0] <= before or not is_independent_plainly(graph, pair[0]):
            return False
        if pair[1].__class__ is not Share or pair[1].over <= 0:
            return False
        before = pair[0]
        for vertex in pair[0]:
            totals[vertex] += fraction_of(pair[1])
    return totals == list(weights)


def is_clique_plainly(graph, value):
    """Whether a value of any kind is a fractional clique."""
    if value.__class__ is not tuple or len(value) != graph.size:
        return False
    if any(share.__class__ is not Share or share.over < 0 for share in value):
        return False
    return all(sum(fraction_of(value[vertex]) for vertex in part) <= 1 for part in independent_sets(graph))


class FoundTest(unittest.TestCase):

    def check(self, graph, weights):
        """Cover and clique are right ones of one sum: so no cover has a lesser one, and no clique a greater one."""
        number = fractional_number(graph=graph, weights=weights)
        cover = fractional_cover(graph=graph, weights=weights)
        clique = fractional_clique(graph=graph, weights=weights)
        self.assertIs(number.__class__, Share)
        assert_tuples(self, (number, cover, clique))
        self.assertTrue(is_cover_plainly(graph, weights, cover), (graph.edges, weights))
        self.assertTrue(is_clique_plainly(graph, clique), (graph.edges, weights))
        self.assertEqual(sum(fraction_of(share) for _, share in cover), fraction_of(number))
        self.assertEqual(sum(fraction_of(share) * weight for share, weight in zip(clique, weights)),
                         fraction_of(number))
        self.assertIs(is_fractional_cover(graph, weights, cover), True)
        self.assertIs(is_fractional_clique(graph, clique), True)
        return number, cover, clique

    def test_small_graphs(self):
        for place, graph in enumerate(list(graphs_up_to(4)) + list(all_graphs(5))[::3]):
            for values in ((1,), (0, 1), (0, 1, 2, 3, 39, 40), tuple(range(41))):
                self.check(graph, weights_of(graph, place, values))

    def test_7_vertices(self):
        for place, graph in enumerate(some_graphs(7, 60)):
            for values in ((1,), (0, 1, 2), (40,), (39, 40), tuple(range(41))):
                self.check(graph, weights_of(graph, place, values))
        special = [Graph.complete(3) + Graph.complete(3) + Graph.path(1), ~(Graph.complete(3) + Graph.complete(4)),
                   Graph.edgeless(7), Graph.complete(7), Graph.cycle(5) + Graph.path(2), Graph.cycle(5) * Graph.path(2),
                   Graph.cycle(7), ~Graph.cycle(7), ~(Graph.cycle(5) + Graph.path(2))]
        for graph in special:
            for seed in range(6):
                self.check(graph, weights_of(graph, seed, tuple(range(41))))

    def test_called_again(self):
        for place, graph in enumerate(list(some_graphs(6, 10)) + list(some_graphs(7, 10))):
            weights = weights_of(graph, place)
            self.assertEqual(self.check(graph, weights), self.check(graph, weights))
            self.assertEqual(self.check(Graph(graph.size, list(graph.edges)), weights), self.check(graph, weights))

    def test_rings_with_weights_1(self):
        for ring, number in ((Graph.cycle(5), Share(5, 2)), (~Graph.cycle(5), Share(5, 2)),
                             (Graph.cycle(7), Share(7, 3)), (~Graph.cycle(7), Share(7, 2))):
            for seed in range(4):
                graph = renumbered(ring, tuple(Dice(seed).mixed(range(ring.size))))
                found, cover, clique = self.check(graph, (1,) * ring.size)
                self.assertEqual(found, number)
                self.assertIs(is_minimal_imperfect(graph), True)
                self.assertEqual(found, Share(ring.size, independence_number(graph)))

    def test_rings_with_other_weights(self):
        self.assertEqual(self.check(Graph.cycle(5), (40,) * 5)[0], Share(100, 1))
        self.assertEqual(self.check(Graph.cycle(5), (39,) * 5)[0], Share(195, 2))
        self.assertEqual(self.check(Graph.cycle(7), (40,) * 7)[0], Share(280, 3))
        self.assertEqual(self.check(Graph.cycle(5), (1, 1, 1, 1, 0))[0], Share(2, 1))
        self.assertEqual(self.check(Graph.cycle(5), (2, 1, 1, 1, 1))[0], Share(3, 1))
        self.assertEqual(self.check(Graph.cycle(5) + Graph.path(2), (1,) * 5 + (0, 2))[0], Share(5, 2))
        self.assertEqual(self.check(Graph.cycle(5) * Graph.path(2), (1,) * 7)[0], Share(9, 2))

    def test_all_weights_0(self):
        for graph in (Graph.path(1), Graph.cycle(5), Graph.complete(7), Graph.edgeless(7), Graph.path(2)):
            number, cover, clique = self.check(graph, (0,) * graph.size)
            self.assertEqual((number, cover), (Share(0, 1), ()))
            self.assertEqual(len(clique), graph.size)

    def test_graphs_without_edges_and_with_all(self):
        for size in range(1, 8):
            weights = tuple(range(size, 0, -1))
            self.assertEqual(self.check(Graph.edgeless(size), weights)[0], Share(size, 1))
            number, cover, clique = self.check(Graph.complete(size), weights)
            self.assertEqual(number, Share(sum(weights), 1))
            self.assertEqual(cover, tuple(((vertex,), Share(weights[vertex], 1)) for vertex in range(size)))
        self.assertEqual(fractional_cover(Graph.edgeless(3), (40, 40, 40)), (((0, 1, 2), Share(40, 1)),))

    def test_7_and_8_vertices(self):
        for call in FOUND:
            call(Graph.path(7), (40,) * 7)
            for graph in (Graph.path(8), Graph.edgeless(8), Graph.cycle(24)):
                for weight in (0, 1, 40):
                    assert_error(self, TooLarge, lambda: call(graph, (weight,) * graph.size), what="vertices")

    def test_wrong_weights(self):
        for graph in (Graph.path(1), Graph.path(3), Graph.path(8), Graph.cycle(24)):
            right = tuple(range(graph.size))
            values = list(exchanged(right, values_of_all_kinds() + [41, 40 + 10 ** 30, ONE]))
            values += [right[:-1], right + (0,), list(right), (ONE,) * graph.size, (40,) * (graph.size - 1) + (41,)]
            for value in [value for value in values if not is_weights_plainly(graph, value)]:
                for call in FOUND:
                    assert_keeps(self, InvalidWeights, "value", value, lambda weights: call(graph, weights))
                for paper in ((), None):
                    assert_keeps(self, InvalidWeights, "value", value,
                                 lambda weights: is_fractional_cover(graph, weights, paper))


class IsCoverTest(unittest.TestCase):

    def check(self, graph, weights, cover):
        self.assertIs(is_fractional_cover(graph=graph, weights=weights, value=cover), True)
        others = values_of_all_kinds() + [(), 0, 1, (1,), ONE, HALF, (ONE,), nested_share(), Share(-1, 2), NONE]
        for value in list(variants(cover)) + list(exchanged(cover, others)):
            self.assertIs(is_fractional_cover(graph, weights, value), is_cover_plainly(graph, weights, value), value)
        for place in range(len(cover)):
            for other in range(place):
                for value in with_shares_exchanged(cover, place, other):
                    self.assertIs(is_fractional_cover(graph, weights, value), is_cover_plainly(graph, weights, value))
        for vertex in graph:
            changed = list(weights)
            changed[vertex] += 1 if changed[vertex] < 40 else -1
            self.assertIs(is_fractional_cover(graph, tuple(changed), cover), False)

    def test_right_ones_with_one_place_changed(self):
        ring = tuple((part, HALF) for part in ((0, 2), (0, 3), (1, 3), (1, 4), (2, 4)))
        self.check(Graph.cycle(5), (1,) * 5, ring)
        self.check(Graph.path(3), (1, 2, 1), (((0,), Share(1, 3)), ((0, 2), Share(2, 3)), ((1,), Share(2, 1)),
                                              ((2,), Share(1, 3))))
        self.check(Graph.edgeless(2), (40, 40), (((0,), Share(119, 3)), ((0, 1), Share(1, 3)), ((1,), Share(119, 3))))
        self.check(Graph.complete(2), (1, 40), (((0,), ONE), ((1,), Share(40, 1))))
        self.check(Graph.path(1), (0,), ())
        self.check(Graph.path(2), (0, 1), (((1,), ONE),))
        long = Share(10 ** 39 - 1, 10 ** 39)
        self.check(Graph.edgeless(2), (1, 1), (((0,), ONE - long), ((0, 1), long), ((1,), ONE - long)))

    def test_24_vertices(self):
        ring = Graph.cycle(24)
        halves = (tuple(range(0, 24, 2)), tuple(range(1, 24, 2)))
        cover = ((halves[0][:6], Share(1, 7)), (halves[0], Share(6, 7)), (halves[1], Share(40, 1)),
                 (halves[0][6:], Share(1, 7)))
        self.assertIs(is_fractional_cover(ring, (1, 40) * 12, cover), True)
        self.assertIs(is_fractional_cover(ring, (1, 40) * 12, cover[::-1]), False)
        self.assertIs(is_fractional_cover(ring, (1, 39) * 12, cover), False)
        self.assertIs(is_fractional_cover(Graph.complete(24), (1, 40) * 12, cover), False)
        single = tuple(((vertex,), Share(40, 1)) for vertex in range(24))
        self.assertIs(is_fractional_cover(Graph.complete(24), (40,) * 24, single), True)
        self.assertIs(is_fractional_cover(Graph.complete(24), (40,) * 24, single[:-1]), False)

    def test_sets_of_all_kinds(self):
        graph, weights = Graph.path(3), (1, 1, 1)
        self.assertIs(is_fractional_cover(graph, weights, (((0, 2), ONE), ((1,), ONE))), True)
        for value in ((((0, 2), 1), ((1,), 1)), (((0, 2), ONE), ((1,), True)), [((0, 2), ONE), ((1,), ONE)],
                      (((1,), ONE), ((0, 2), ONE)), (((0, 2), HALF), ((0, 2), HALF), ((1,), ONE)),
                      (((), ONE), ((0, 2), ONE), ((1,), ONE)), (((2, 0), ONE), ((1,), ONE)), (((0, 1, 2), ONE),),
                      (((0, 2), ONE), ((1,), Share(2, 1))), (((0, 2), ONE), ((1,), HALF)), (((0, 2), ONE),),
                      (((0,), NONE), ((0, 2), ONE), ((1,), ONE)), (([0, 2], ONE), ((1,), ONE)), (ONE, ONE), ONE, (),
                      (((0,), Share(-1, 1)), ((0, 2), Share(2, 1)), ((1,), ONE), ((2,), Share(-1, 1))), None, graph,
                      (((0, 1), ONE), ((2,), ONE)), ([(0, 2), ONE], ((1,), ONE)), ((ONE, (0, 2)), (ONE, (1,))),
                      (((0, 2), (1, 1)), ((1,), (1, 1))), (((0, 2), ONE), ((True,), ONE)), (((0, 2), ONE, ONE),
                                                                                           ((1,), ONE))):
            self.assertIs(is_fractional_cover(graph, weights, value), False, value)

    def test_all_weights_0(self):
        for size in (1, 8, 24):
            self.assertIs(is_fractional_cover(Graph.path(size), (0,) * size, ()), True)
            self.assertIs(is_fractional_cover(Graph.path(size), (0,) * size, []), False)
            self.assertIs(is_fractional_cover(Graph.path(size), (0,) * size, (((0,), ONE),)), False)
            self.assertIs(is_fractional_cover(Graph.path(size), (0,) * size, (((0,), NONE),)), False)


def nested_share():
    """A share in tuples and lists, ten deep."""
    value = HALF
    for level in range(10):
        value = (value,) if level % 2 else [value]
    return value


def with_shares_exchanged(cover, place, other):
    """The cover with the shares of two pairs exchanged, and with the sets of both."""
    for turned in (False, True):
        pairs = list(cover)
        first, second = cover[place], cover[other]
        pairs[place] = (second[0], first[1]) if turned else (first[0], second[1])
        pairs[other] = (first[0], second[1]) if turned else (second[0], first[1])
        yield tuple(pairs)


class IsCliqueTest(unittest.TestCase):

    def check(self, graph, clique):
        self.assertIs(is_fractional_clique(graph=graph, value=clique), True)
        others = values_of_all_kinds() + [(), 0, 1, (1,), ONE, HALF, NONE, Share(-1, 3), Share(2, 1), nested_share()]
        for value in list(variants(clique)) + list(exchanged(clique, others)):
            self.assertIs(is_fractional_clique(graph, value), is_clique_plainly(graph, value), value)

    def test_right_ones_with_one_place_changed(self):
        self.check(Graph.cycle(5), (HALF,) * 5)
        self.check(Graph.path(3), (HALF, ONE, HALF))
        self.check(Graph.path(1), (ONE,))
        self.check(Graph.path(2), (NONE, NONE))
        self.check(Graph.complete(8), (ONE,) * 8)
        self.check(Graph.edgeless(8), (Share(1, 8),) * 8)
        self.check(Graph.edgeless(2), (Share(1, 3), Share(2, 3)))
        self.check(Graph.edgeless(2), (Share(1, 10 ** 39), Share(10 ** 39 - 1, 10 ** 39)))
        self.check(Graph.cycle(7), (Share(1, 3),) * 7)
        self.check(~Graph.cycle(7), (HALF,) * 7)

    def test_drawn_shares(self):
        answers = []
        for place, graph in enumerate(list(graphs_up_to(4)) + list(some_graphs(5, 60)) + list(some_graphs(8, 60))):
            dice = Dice(place)
            value = tuple(Share(dice.below(6), 6 + dice.below(6)) for _ in graph)
            answers.append(is_clique_plainly(graph, value))
            self.assertIs(is_fractional_clique(graph, value), answers[-1])
        self.assertGreater(answers.count(True), 20)
        self.assertGreater(answers.count(False), 20)

    def test_values_of_other_kinds(self):
        graph = Graph.path(2)
        more = [(1, 0), (0, 0), (ONE, 0), (True, NONE), [ONE, NONE], (ONE,), (ONE, NONE, NONE), (Share(3, 2), NONE),
                (Share(-1, 1), ONE), (ONE, Share(-1, 10 ** 39)), ONE, ((ONE, NONE),), ((1, 1), (0, 1)), "10",
                (None, None), (graph, graph)]
        for value in values_of_all_kinds() + more:
            self.assertIs(is_fractional_clique(graph, value), False, value)
        self.assertIs(is_fractional_clique(graph, (ONE, NONE)), True)
        self.assertIs(is_fractional_clique(graph, (ONE, ONE)), True)
        self.assertIs(is_fractional_clique(~graph, (ONE, ONE)), False)

    def test_8_and_9_vertices(self):
        self.assertIs(is_fractional_clique(Graph.path(8), (HALF,) * 8), False)
        self.assertIs(is_fractional_clique(Graph.path(8), (Share(1, 4),) * 8), True)
        for graph in (Graph.path(9), Graph.complete(9), Graph.edgeless(24)):
            for value in ((NONE,) * graph.size, (ONE,) * graph.size, (), None, values_of_all_kinds()):
                assert_error(self, TooLarge, lambda: is_fractional_clique(graph, value), what="vertices")


class BoldTest(unittest.TestCase):

    def test_a_clique_weighs_at_most_what_a_cover_does(self):
        for place, graph in enumerate(list(all_graphs(4)) + list(some_graphs(6, 20)) + list(some_graphs(7, 10))):
            clique = fractional_clique(graph, weights_of(graph, place))
            for seed in range(4):
                weights = weights_of(graph, place + 100 + seed)
                cover = fractional_cover(graph, weights)
                light = sum(fraction_of(share) * weight for share, weight in zip(clique, weights))
                self.assertLessEqual(light, sum(fraction_of(share) for _, share in cover))

    def test_between_clique_weight_and_cover_number(self):
        for place, graph in enumerate(list(graphs_up_to(4)) + list(some_graphs(5, 60)) + list(some_graphs(7, 30))):
            dice = Dice(place)
            weights = [0] * graph.size
            for _ in range(dice.below(9)):
                weights[dice.below(graph.size)] += 1
            number = fraction_of(fractional_number(graph, tuple(weights)))
            self.assertLessEqual(clique_weight(graph, tuple(weights)), number)
            self.assertLessEqual(number, cover_number(graph, tuple(weights)))

    def test_perfect_exactly_if_it_is_the_clique_weight_for_all_weights_up_to_1(self):
        graphs = list(graphs_up_to(4)) + list(all_graphs(5))[::19] + [Graph.cycle(5), Graph.cycle(7), ~Graph.cycle(7),
                                                                      Graph.path(7), Graph.cycle(5) + Graph.path(2)]
        for graph in graphs:
            equal = True
            for bits in range(2 ** graph.size):
                weights = tuple(bits >> vertex & 1 for vertex in graph)
                equal = equal and fractional_number(graph, weights) == Share.whole(clique_weight(graph, weights))
            self.assertEqual(equal, is_perfect(graph))


if __name__ == "__main__":
    unittest.main()
