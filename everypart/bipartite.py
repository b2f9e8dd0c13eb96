"""Graphs whose vertices stand on two sides, and odd cycles."""

from everypart.errors import Undefined
from everypart.search import connected_pieces, reached_from, way_back


def sides(graph):
    """A bit for each vertex, unlike at the ends of each edge, 0 at the least vertex of each piece."""
    bits = side_bits(search_forest(graph))
    if edge_within_side(graph, bits) is not None:
        raise Undefined("sides")
    return tuple([bits[vertex] for vertex in graph])


def odd_cycle(graph):
    """Some cycle with an odd number of vertices."""
    ahead = search_forest(graph)
    edge = edge_within_side(graph, side_bits(ahead))
    if edge is None:
        raise Undefined("cycle")
    # Both ends are as far from the start of their piece, so that the ways to where they meet are of one length.
    way, other_way = way_back(edge[0], ahead), way_back(edge[1], ahead)
    meeting = [vertex for vertex in way if vertex in other_way][0]
    return tuple(way[:way.index(meeting) + 1] + other_way[:other_way.index(meeting)][::-1])


def search_forest(graph):
    """All vertices, each behind the one ahead of it on a shortest way from the least vertex of its piece."""
    ahead = {}
    for piece in connected_pieces(graph, tuple(graph)):
        ahead.update(reached_from(graph, piece[0], piece))
    return ahead


def side_bits(ahead):
    """The bit of each vertex: 0 where the forest begins, and unlike at each step."""
    bits = {}
    for vertex, before in ahead.items():
        bits[vertex] = 0 if before is None else 1 - bits[before]
    return bits


def edge_within_side(graph, bits):
    """The first edge whose ends have like bits, or None."""
    within = [(one, other) for one, other in graph.edges if bits[one] == bits[other]]
    return within[0] if within else None
