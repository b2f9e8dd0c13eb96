"""Graphs built by unions and joins alone, and paths of four."""

from everypart.errors import InvalidTree, Undefined
from everypart.graphs import Graph
from everypart.kinds import is_ascending, is_integer, is_pair
from everypart.limits import MOST_VERTICES
from everypart.search import connected_pieces

WORDS = ("union", "join")


def cotree(graph):
    """The cotree of the graph."""
    return cotree_of(tuple(graph), graph, ~graph)


def cotree_of(subset, graph, complement):
    """The cotree of the induced graph of subset, told in the vertices of graph."""
    if len(subset) == 1:
        return subset[0]
    for word, whole in (("union", graph), ("join", complement)):
        pieces = connected_pieces(whole, subset)
        if len(pieces) > 1:
            return word, tuple([cotree_of(piece, graph, complement) for piece in pieces])
    raise Undefined("cotree")


def cotree_graph(value):
    """The graph of a cotree with the vertices from 0 on."""
    vertices = cotree_vertices(value)
    if not 1 <= len(vertices) <= MOST_VERTICES or sorted(vertices) != list(range(len(vertices))):
        raise InvalidTree(value)
    return Graph(len(vertices), sorted(cotree_edges(value)))


def cotree_vertices(value):
    """The vertices of a cotree as they stand, one that comes twice too; none of a value that is no cotree."""
    if is_integer(value):
        return [value]
    if not is_node(value):
        return []
    parts = [cotree_vertices(part) for part in value[1]]
    if not all(parts) or not is_ascending([min(part) for part in parts]):
        return []
    return [vertex for part in parts for vertex in part]


def is_node(value):
    """Whether value is a word and a tuple of two or more parts without that word."""
    if not is_pair(value) or value[0] not in WORDS:
        return False
    word, parts = value
    if not isinstance(parts, tuple) or len(parts) < 2:
        return False
    return not any([isinstance(part, tuple) and part[:1] == (word,) for part in parts])


def cotree_edges(value):
    """The edges of the graph of a cotree."""
    if is_integer(value):
        return []
    word, parts = value
    found = [edge for part in parts for edge in cotree_edges(part)]
    return found + edges_between(parts) if word == "join" else found


def edges_between(parts):
    """The pairs of vertices of two unlike parts, the lesser vertex first."""
    groups = [cotree_vertices(part) for part in parts]
    found = []
    for place, group in enumerate(groups):
        behind = [vertex for later in groups[place + 1:] for vertex in later]
        found.extend([(min(one, other), max(one, other)) for one in group for other in behind])
    return found


def path_of_four(graph):
    """The least four vertices that are joined in a row and not otherwise."""
    for a in graph:
        for b in graph.neighbors(a):
            for c in new_neighbors(graph, b, (a,)):
                ends = new_neighbors(graph, c, (a, b))
                if ends:
                    return a, b, c, ends[0]
    raise Undefined("path")


def new_neighbors(graph, vertex, before):
    """The neighbors of the vertex that are not among those before it, nor joined to one of them."""
    return [end for end in graph.neighbors(vertex) if is_apart(graph, end, before)]


def is_apart(graph, vertex, others):
    """Whether the vertex is none of the others, nor joined to one of them."""
    return not any([vertex == other or (vertex, other) in graph for other in others])
