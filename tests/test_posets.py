"""Promise [27]: posets, their chains, antichains and levels."""

import unittest
from itertools import combinations, permutations

from everypart.errors import InvalidGraph, InvalidNumber
from everypart.graphs import Graph
from everypart.perfect import is_perfect
from everypart.posets import Poset, chains, comparability_graph, largest_antichain, levels, longest_chain
from everypart.shares import Share
from tests.helpers import (Dice, assert_error, assert_keeps, assert_tuples, is_plain_subset, nested,
                           values_of_all_kinds)


def led_plainly(size, pairs):
    """All (a, b) such that pairs lead from a to b, found by longer and longer ways."""
    found = {pair: True for pair in pairs}
    for _ in range(size):
        found.update({(a, d): True for a, b in list(found) for c, d in pairs if b == c})
    return list(found)


def drawn_posets(size, count):
    """Posets without cycles, with few pairs or many, vertices renumbered."""
    for seed in range(count):
        dice = Dice(seed * 31 + size)
        density = 2 + seed * 60 // count
        names = dice.mixed(range(size))
        pairs = [(names[a], names[b]) for a, b in combinations(range(size), 2) if dice.below(100) < density]
        yield Poset(size, tuple(sorted(pairs)))


def small_pair_tables(size):
    """All sets of pairs of unlike vertices."""
    pairs = list(permutations(range(size), 2))
    for bits in range(2 ** len(pairs)):
        yield tuple(pair for place, pair in enumerate(pairs) if bits >> place & 1)


class PosetTest(unittest.TestCase):

    def check(self, poset):
        below = led_plainly(poset.size, poset.pairs)
        for a in range(poset.size):
            for b in range(poset.size):
                self.assertIs(poset.is_below(a, b), (a, b) in below)
        self.check_graph(poset, below)
        self.check_parts(poset, below)
        self.check_levels(poset, below)

    def check_graph(self, poset, below):
        pairs = [(a, b) for a, b in combinations(range(poset.size), 2) if (a, b) in below or (b, a) in below]
        self.assertEqual(comparability_graph(poset=poset), Graph(poset.size, pairs))

    def check_parts(self, poset, below):
        """As many chains as the antichain has vertices: so fewer chains are not enough, and no antichain is greater."""
        parts, antichain = chains(poset=poset), largest_antichain(poset=poset)
        assert_tuples(self, (parts, antichain))
        self.assertEqual(list(parts), sorted(parts))
        self.assertEqual(sorted(vertex for part in parts for vertex in part), list(range(poset.size)))
        for part in parts:
            self.assertTrue(part and is_plain_subset(part, poset.size))
            self.assertTrue(all((a, b) in below or (b, a) in below for a, b in combinations(part, 2)))
        self.assertTrue(is_plain_subset(antichain, poset.size))
        self.assertFalse(any((a, b) in below for a in antichain for b in antichain))
        self.assertEqual(len(parts), len(antichain))
        self.assertEqual((chains(poset), largest_antichain(poset)), (parts, antichain))

    def check_levels(self, poset, below):
        left, known = list(range(poset.size)), []
        while left:
            known.append(tuple(b for b in left if not any((a, b) in below for a in left)))
            left = [vertex for vertex in left if vertex not in known[-1]]
        self.assertEqual(levels(poset=poset), tuple(known))
        chain = longest_chain(poset=poset)
        assert_tuples(self, (levels(poset), chain))
        self.assertTrue(is_plain_subset(chain, poset.size))
        self.assertTrue(all((a, b) in below or (b, a) in below for a, b in combinations(chain, 2)))
        self.assertEqual(len(chain), len(known))
        self.assertEqual(longest_chain(poset), chain)

    def test_all_of_up_to_4_vertices(self):
        for size in (1, 2, 3, 4):
            for pairs in small_pair_tables(size):
                if any(a == b for a, b in led_plainly(size, pairs)):
                    assert_error(self, InvalidGraph, lambda: Poset(size, pairs), part="cycle", place=0)
                else:
                    self.check(Poset(size=size, pairs=pairs))

    def test_drawn_ones(self):
        for size, count in ((7, 25), (12, 30), (24, 16)):
            for poset in drawn_posets(size, count):
                self.check(poset)

    def test_long_ways_alone(self):
        for seed in range(4):
            names = Dice(seed).mixed(range(24))
            poset = Poset(24, sorted(zip(names, names[1:])))
            self.check(poset)
            self.assertEqual((chains(poset), longest_chain(poset)), ((tuple(range(24)),), tuple(range(24))))
            self.assertEqual(levels(poset), tuple((vertex,) for vertex in names))
            self.assertEqual(len(largest_antichain(poset)), 1)
            self.assertEqual(comparability_graph(poset), Graph.complete(24))

    def test_without_pairs(self):
        for size in (1, 2, 24):
            poset = Poset(size, ())
            self.check(poset)
            self.assertEqual(chains(poset), tuple((vertex,) for vertex in range(size)))
            self.assertEqual(levels(poset), (tuple(range(size)),))
            self.assertEqual(largest_antichain(poset), tuple(range(size)))
            self.assertEqual(len(longest_chain(poset)), 1)
            self.assertEqual(comparability_graph(poset), Graph.edgeless(size))

    def test_examples(self):
        poset = Poset(6, ((0, 1), (0, 2), (1, 5), (2, 5), (4, 3)))
        self.assertEqual(levels(poset), ((0, 4), (1, 2, 3), (5,)))
        self.assertEqual(len(longest_chain(poset)), 3)
        self.assertEqual(largest_antichain(poset)[:2], (1, 2))
        self.assertEqual(len(chains(poset)), 3)
        # The fewest chains join vertices that no pair joins by itself.
        self.assertEqual(len(chains(Poset(5, ((0, 2), (1, 2), (2, 3), (2, 4))))), 2)
        # A longest chain first would leave three chains.
        self.assertEqual(len(chains(Poset(6, ((0, 1), (1, 2), (1, 4), (2, 3), (5, 2))))), 2)

    def test_attributes(self):
        pairs = [(2, 0), (2, 1)]
        for given in (pairs, tuple(pairs)):
            poset = Poset(3, given)
            self.assertEqual((poset.size, poset.pairs), (3, ((2, 0), (2, 1))))
            assert_tuples(self, (poset.size, poset.pairs))
        poset = Poset(3, pairs)
        pairs.append((1, 0))
        pairs[0] = (0, 2)
        self.assertEqual(poset.pairs, ((2, 0), (2, 1)))
        self.assertEqual((poset.is_below(1, 0), poset.is_below(2, 0), poset.is_below(0, 2)), (False, True, False))
        self.assertEqual(pairs, [(0, 2), (2, 1), (1, 0)])

    def test_comparability_graphs_are_perfect(self):
        for poset in list(drawn_posets(7, 20)) + list(drawn_posets(8, 20)):
            self.assertIs(is_perfect(comparability_graph(poset)), True)


class WrongPosetTest(unittest.TestCase):

    def test_sizes(self):
        self.assertEqual(Poset(24, ((23, 0),)).size, 24)
        for size in values_of_all_kinds() + [0, 25, -1, Share(3, 1), (3,)]:
            if size.__class__ is int and 1 <= size <= 24:
                continue
            for pairs in ((), ((0, 1),), None, ((0, 1), (1, 0))):
                assert_error(self, InvalidGraph, lambda: Poset(size, pairs), part="size", place=0)

    def test_no_sequence(self):
        poset = Poset(2, ())
        for pairs in (None, 0, "", "01", True, {}, Graph.path(2), Share(0, 1), poset, {(0, 1): 1}):
            assert_error(self, InvalidGraph, lambda: Poset(3, pairs), part="pairs", place=0)

    def test_wrong_pairs(self):
        values = [value for value in values_of_all_kinds() if value != (0, 1)]
        wrong = values + [(0, 0), (1, 1), (2, 2), (0, 3), (3, 0), (-1, 0), (0, True), (False, 1), (1, False), [0, 1],
                          (0,), (0, 1, 2), (None, 1), ("0", "1"), Share(0, 1), (Share(0, 1), 1), nested((0, 1), 3),
                          ((0, 1),), (0, 10 ** 30), Poset(2, ()), 0, 1]
        for value in wrong:
            for kind in (list, tuple):
                assert_error(self, InvalidGraph, lambda: Poset(3, kind([value])), part="pairs", place=0)
                assert_error(self, InvalidGraph, lambda: Poset(3, kind([(0, 1), value])), part="pairs", place=1)
                assert_error(self, InvalidGraph, lambda: Poset(3, kind([(0, 1), (0, 2), value, None])), part="pairs",
                             place=2)
                assert_error(self, InvalidGraph, lambda: Poset(3, kind([(0, 1), (1, 0), value])), part="pairs", place=2)

    def test_pairs_that_do_not_ascend(self):
        for pairs, place in ((((0, 1), (0, 1)), 1), (((0, 2), (0, 1)), 1), (((0, 1), (2, 1), (1, 2)), 2),
                             (((1, 0), (0, 1)), 1), (((0, 1), (1, 2), (1, 2), (1, 2)), 2), (((2, 0), (0, 2)), 1)):
            assert_error(self, InvalidGraph, lambda: Poset(3, pairs), part="pairs", place=place)
        self.assertEqual(Poset(3, ((0, 1), (2, 0), (2, 1))).pairs, ((0, 1), (2, 0), (2, 1)))

    def test_pairs_that_lead_back(self):
        for length in (2, 3, 4, 5, 12, 24):
            for seed in range(3):
                ring = Dice(seed).mixed(range(24))[:length]
                pairs = sorted(zip(ring, ring[1:] + ring[:1]))
                assert_error(self, InvalidGraph, lambda: Poset(24, pairs), part="cycle", place=0)
                Poset(24, pairs[1:])
        assert_error(self, InvalidGraph, lambda: Poset(4, ((0, 1), (1, 2), (2, 3), (3, 1))), part="cycle", place=0)
        assert_error(self, InvalidGraph, lambda: Poset(4, ((0, 1), (2, 3), (3, 2))), part="cycle", place=0)

    def test_what_is_no_vertex(self):
        poset = Poset(3, ((0, 1), (1, 2)))
        self.assertIs(poset.is_below(a=0, b=2), True)
        self.assertIs(poset.is_below(2, 0), False)
        self.assertIs(poset.is_below(1, 1), False)
        wrong = [value for value in values_of_all_kinds() if value.__class__ is not int]
        for value in wrong + [3, -1, 24, 10 ** 30, Share(1, 1), poset, (0,), [1]]:
            assert_keeps(self, InvalidNumber, "value", value, lambda given: poset.is_below(given, 1))
            assert_keeps(self, InvalidNumber, "value", value, lambda given: poset.is_below(1, given))
            assert_keeps(self, InvalidNumber, "value", value, lambda given: poset.is_below(given, None))
            assert_keeps(self, InvalidNumber, "value", value, lambda given: poset.is_below(given, given))


if __name__ == "__main__":
    unittest.main()
