"""Weights of the vertices, and covers of them by independent sets."""

from everypart.cliques import all_cliques, is_nonempty_independent
from everypart.colorings import optimal_coloring
from everypart.covers import members_of
from everypart.errors import InvalidWeights, TooLarge, Undefined
from everypart.graphs import Graph
from everypart.kinds import is_ascending, is_between, is_integer, is_pair
from everypart.limits import MOST_COVERED, MOST_VERTICES, MOST_WEIGHT, require_exhaustible, require_vertices
from everypart.perfect import is_perfect
from everypart.subsets import vertex_pairs
from everypart.weighing import equal_cover, weight_of


def clique_weight(graph, weights):
    """The greatest weight of a clique."""
    require_weights(graph, weights)
    require_exhaustible(graph)
    return max([weight_of(clique, weights) for clique in all_cliques(graph)])


def heaviest_cliques(graph, weights):
    """The non-empty cliques with the greatest weight whose vertices all weigh something, ascending."""
    greatest = clique_weight(graph, weights)
    found = [clique for clique in all_cliques(graph) if clique and weight_of(clique, weights) == greatest]
    return tuple(sorted([clique for clique in found if 0 not in [weights[vertex] for vertex in clique]]))


def replicated(graph, weights):
    """The graph with as many joined vertices in the place of each vertex as it weighs."""
    require_weights(graph, weights)
    replaced = replaced_vertices(weights)
    if not replaced:
        raise Undefined("graph")
    require_vertices(len(replaced), MOST_VERTICES)
    pairs = vertex_pairs(tuple(range(len(replaced))))
    return Graph(len(replaced), [pair for pair in pairs if come_joined(graph, replaced, pair)])


def replaced_vertices(weights):
    """For each vertex of the replicated graph the one that it replaces."""
    return [vertex for vertex, weight in enumerate(weights) for _ in range(weight)]


def come_joined(graph, replaced, pair):
    """Whether two vertices of the replicated graph replace one vertex or joined ones."""
    one, other = replaced[pair[0]], replaced[pair[1]]
    return one == other or (one, other) in graph


def is_cover(graph, weights, cover):
    """Whether a value of any kind is a cover of the weights."""
    require_weights(graph, weights)
    if not isinstance(cover, tuple) or not all([is_cover_pair(graph, member) for member in cover]):
        return False
    if not is_ascending([member[0] for member in cover]):
        return False
    return weights == tuple([sum([times for part, times in cover if vertex in part]) for vertex in graph])


def is_cover_pair(graph, value):
    """Whether a value of any kind is a pair of a non-empty independent set and an integer from 1 on."""
    if not is_pair(value):
        return False
    part, times = value
    return is_nonempty_independent(graph, part) and is_integer(times) and times >= 1


def cover_number(graph, weights):
    """The least sum of the times of a cover."""
    return sum([times for part, times in optimal_cover(graph, weights)])


def optimal_cover(graph, weights):
    """Some cover with the least sum of its times."""
    require_weights(graph, weights)
    if sum(weights) > MOST_COVERED:
        raise TooLarge("weights")
    require_exhaustible(graph)
    if sum(weights) == 0:
        return ()
    # What replaces a vertex is joined, so that a color of the replicated graph is a set of the cover, taken once.
    replaced = replaced_vertices(weights)
    coloring = optimal_coloring(replicated(graph, weights))
    colors = [members_of(color, coloring) for color in range(max(coloring) + 1)]
    return counted([tuple([replaced[place] for place in members]) for members in colors])


def counted(parts):
    """The ascending tuple of pairs of each of these subsets and how often it comes."""
    times = {}
    for part in parts:
        times[part] = times.get(part, 0) + 1
    return tuple(sorted([(part, count) for part, count in times.items()]))


def perfect_cover(graph, weights):
    """Some cover of a perfect graph whose times add up to the weight of a heaviest clique."""
    require_weights(graph, weights)
    if not is_perfect(graph):
        raise Undefined("cover")
    return equal_cover(graph, weights)[0]


def require_weights(graph, value):
    """Raise InvalidWeights unless value is weights of the graph."""
    if not isinstance(value, tuple) or len(value) != graph.size:
        raise InvalidWeights(value)
    if not all([is_between(weight, 0, MOST_WEIGHT) for weight in value]):
        raise InvalidWeights(value)
