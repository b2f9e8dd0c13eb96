"""Matchings and vertex covers of graphs with sides."""

from everypart.bipartite import sides
from everypart.pairing import best_partners, least_cover


def maximum_matching(graph):
    """Some edges without a common end, ascending, as many as possible."""
    partners = best_partners(side_rows(graph))
    return tuple(sorted([(min(one, other), max(one, other)) for one, other in partners.items()]))


def vertex_cover(graph):
    """Some subset, as small as possible, that has an end of every edge."""
    rows = side_rows(graph)
    lefts, rights = least_cover(rows, best_partners(rows))
    return tuple(sorted(lefts + rights))


def side_rows(graph):
    """For each vertex with side 0 its neighbors."""
    bits = sides(graph)
    return {vertex: graph.neighbors(vertex) for vertex in graph if bits[vertex] == 0}
