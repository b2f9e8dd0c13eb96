"""Partial orders of the vertices: chains, antichains and levels."""

from everypart.errors import InvalidGraph, InvalidNumber
from everypart.graphs import Graph
from everypart.kinds import first_fault, is_between, is_pair, is_sequence
from everypart.limits import MOST_VERTICES
from everypart.pairing import best_partners, least_cover
from everypart.search import way_back
from everypart.subsets import vertex_pairs
from everypart.tables import has_vertex, mask_of


class Poset:
    """The vertices from 0 to size - 1, each one below those to which pairs lead from it."""

    def __init__(self, size, pairs):
        if not is_between(size, 1, MOST_VERTICES):
            raise InvalidGraph("size", 0)
        place = first_wrong_pair(size, pairs)
        if place is not None:
            raise InvalidGraph("pairs", place)
        rows = masks_above(size, pairs)
        if any([has_vertex(row, vertex) for vertex, row in enumerate(rows)]):
            raise InvalidGraph("cycle", 0)
        self.size = size
        self.pairs = tuple(pairs)
        self._above = rows

    def is_below(self, a, b):
        """Whether pairs lead from a to b."""
        for vertex in (a, b):
            if not is_between(vertex, 0, self.size - 1):
                raise InvalidNumber(vertex)
        return has_vertex(self._above[a], b)


def first_wrong_pair(size, pairs):
    """The place of the first of pairs that cannot stand there, or None."""
    if not is_sequence(pairs):
        return 0
    return first_fault(pairs, [is_unlike_pair(pair, size) for pair in pairs])


def is_unlike_pair(value, size):
    """Whether a value of any kind is a pair of unlike vertices."""
    return is_pair(value) and all([is_between(vertex, 0, size - 1) for vertex in value]) and value[0] != value[1]


def masks_above(size, pairs):
    """For each vertex the mask of those to which pairs lead from it."""
    rows = [mask_of([other for one, other in pairs if one == vertex]) for vertex in range(size)]
    # With each vertex, ways over this one and those ahead of it are known.
    for between in range(size):
        rows = [row | rows[between] if has_vertex(row, between) else row for row in rows]
    return rows


def comparability_graph(poset):
    """The graph in which two vertices are joined if one is below the other."""
    pairs = vertex_pairs(tuple(range(poset.size)))
    return Graph(poset.size, [(a, b) for a, b in pairs if poset.is_below(a, b) or poset.is_below(b, a)])


def chains(poset):
    """Some ascending tuple of the fewest chains, each vertex in just one."""
    # Paired with the next one of its chain, a vertex is a left; so each one is but the last of each chain.
    partners = best_partners(rows_above(poset))
    before = {vertex: partners.get(vertex) for vertex in range(poset.size)}
    lefts = list(partners.values())
    lasts = [vertex for vertex in range(poset.size) if vertex not in lefts]
    return tuple(sorted([tuple(sorted(way_back(last, before))) for last in lasts]))


def largest_antichain(poset):
    """Some antichain of the greatest size."""
    rows = rows_above(poset)
    # Of two vertices one above the other, the cover has the lower one as a left or the upper one as a right.
    lefts, rights = least_cover(rows, best_partners(rows))
    return tuple([vertex for vertex in range(poset.size) if vertex not in lefts and vertex not in rights])


def rows_above(poset):
    """For each vertex those above it."""
    vertices = list(range(poset.size))
    return {vertex: [other for other in vertices if poset.is_below(vertex, other)] for vertex in vertices}


def levels(poset):
    """The antichains of the vertices with none below them in what is left, from the lowest on."""
    found = []
    left = list(range(poset.size))
    while left:
        level = tuple([vertex for vertex in left if not any([poset.is_below(other, vertex) for other in left])])
        found.append(level)
        left = [vertex for vertex in left if vertex not in level]
    return tuple(found)


def longest_chain(poset):
    """Some chain of the greatest size."""
    chain = []
    for level in levels(poset)[::-1]:
        # A vertex that is not on the first level has one below it on the level before.
        fitting = [vertex for vertex in level if not chain or poset.is_below(vertex, chain[-1])]
        chain.append(fitting[0])
    return tuple(sorted(chain))
