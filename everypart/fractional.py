"""Fractional covers and cliques: sets and vertices taken by shares."""

from everypart.cliques import is_nonempty_independent, maximal_cliques
from everypart.kinds import is_ascending, is_pair
from everypart.limits import MOST_FRACTIONAL, require_exhaustible, require_vertices
from everypart.pivots import equal_values
from everypart.shares import Share
from everypart.weights import require_weights


def fractional_number(graph, weights):
    """The least sum of the shares of a fractional cover."""
    return total_of([share for part, share in fractional_cover(graph, weights)])


def fractional_cover(graph, weights):
    """Some fractional cover with the least sum of its shares."""
    sets = sets_of(graph, weights)
    _, times, unit = equal_values(sets, weights)
    found = {part: count for part, count in zip(sets, times)}
    for vertex in graph:
        spare = sum([count for part, count in found.items() if vertex in part]) - weights[vertex] * unit
        found = lessened(found, vertex, spare)
    return tuple([(part, Share(found[part], unit)) for part in sorted(found)])


def fractional_clique(graph, weights):
    """Some fractional clique that weighs as much as the least shares of a fractional cover add up to."""
    values, _, unit = equal_values(sets_of(graph, weights), weights)
    return tuple([Share(value, unit) for value in values])


def sets_of(graph, weights):
    """The maximal independent sets, if these are weights and the graph is not too large."""
    require_weights(graph, weights)
    require_vertices(graph.size, MOST_FRACTIONAL)
    # Smaller sets are not needed yet: what a maximal one covers too often is taken out of it later.
    return maximal_cliques(~graph)


def lessened(times, vertex, spare):
    """The times of the sets when so many of those with the vertex go to the sets without it; none is 0."""
    # No empty set comes about: without it, there would be a cover with a lesser sum than the least.
    found = {}
    for part, count in times.items():
        moved = min(count, spare) if vertex in part else 0
        rest = tuple([other for other in part if other != vertex])
        found[part] = found.get(part, 0) + count - moved
        found[rest] = found.get(rest, 0) + moved
        spare = spare - moved
    return {part: count for part, count in found.items() if count > 0}


def is_fractional_cover(graph, weights, value):
    """Whether a value of any kind is a fractional cover of the weights."""
    require_weights(graph, weights)
    if not isinstance(value, tuple) or not all([is_cover_part(graph, member) for member in value]):
        return False
    if not is_ascending([member[0] for member in value]):
        return False
    totals = [total_of([share for part, share in value if vertex in part]) for vertex in graph]
    return all([total == Share.whole(weight) for total, weight in zip(totals, weights)])


def is_cover_part(graph, value):
    """Whether a value of any kind is a pair of a non-empty independent set and a share above 0."""
    if not is_pair(value):
        return False
    part, share = value
    return is_nonempty_independent(graph, part) and isinstance(share, Share) and share.over > 0


def is_fractional_clique(graph, value):
    """Whether a value of any kind is a fractional clique of the graph."""
    require_exhaustible(graph)
    if not isinstance(value, tuple) or len(value) != graph.size:
        return False
    if not all([isinstance(share, Share) and share.over >= 0 for share in value]):
        return False
    # With no share below 0, no set within another one adds up to more.
    totals = [total_of([value[vertex] for vertex in part]) for part in maximal_cliques(~graph)]
    return not any([Share.whole(1).is_below(total) for total in totals])


def total_of(shares):
    """What the shares add up to."""
    total = Share.whole(0)
    for share in shares:
        total = total + share
    return total
