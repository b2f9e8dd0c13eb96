"""Heaviest cliques of graphs of any size, and covers of perfect graphs that are as light.

Sets of vertices are told by their masks, as in tables; rows tell the mask of the neighbors of
each vertex.
"""

from everypart.tables import mask_of, subset_of


def equal_cover(graph, weights):
    """Some cover of the weights of a perfect graph, and a clique that weighs as much as its times add up to."""
    joined = neighbor_masks(graph)
    apart = neighbor_masks(~graph)
    left = list(weights)
    clique = heaviest_clique(joined, left)
    # All cliques kept here are heaviest ones by the weights left, to the end, since each set meets them all.
    heaviest = [clique]
    cover = []
    while weight_of(clique, left) > 0:
        part = meeting_set(apart, heaviest)
        # The set meets a clique kept in one vertex and misses the rest of it: no vertex has less left than the gap.
        missed = heaviest_clique(joined, [0 if vertex in part else left[vertex] for vertex in graph])
        gap = weight_of(clique, left) - weight_of(missed, left)
        if gap > 0:
            cover.append((part, gap))
            left = [left[vertex] - gap if vertex in part else left[vertex] for vertex in graph]
        # All later sets meet this clique, which this set misses, so that no set comes twice.
        heaviest.append(missed)
    return tuple(sorted(cover)), clique


def meeting_set(apart, cliques):
    """An independent set that meets each one of these heaviest cliques of a perfect graph."""
    # A set meets a clique in one vertex at most; so the heaviest by these weights meets them all, as some set does.
    return heaviest_clique(apart, [len([1 for clique in cliques if vertex in clique]) for vertex in range(len(apart))])


def heaviest_clique(rows, weights):
    """Some clique, as a subset, with the greatest weight; all its vertices weigh something."""
    known = {0: 0}
    left = mask_of([vertex for vertex, weight in enumerate(weights) if weight > 0])
    weigh_within(left, rows, weights, known)
    clique = 0
    while left > 0:
        last = left.bit_length() - 1
        rest = left ^ (1 << last)
        if known[left] > known[rest]:
            clique = clique | (1 << last)
            rest = rest & rows[last]
        left = rest
    return subset_of(clique)


def weigh_within(mask, rows, weights, known):
    """The weight of a heaviest clique within the mask; known keeps it, and those of all masks asked on the way."""
    if mask not in known:
        # Taking the last vertex first leaves at most 2 ** 12 masks of 24 vertices at each step.
        last = mask.bit_length() - 1
        rest = mask ^ (1 << last)
        with_last = weights[last] + weigh_within(rest & rows[last], rows, weights, known)
        known[mask] = max(with_last, weigh_within(rest, rows, weights, known))
    return known[mask]


def neighbor_masks(graph):
    """The mask of the neighbors of each vertex."""
    return [mask_of(graph.neighbors(vertex)) for vertex in graph]


def weight_of(subset, weights):
    """What the vertices of the subset weigh together."""
    return sum([weights[vertex] for vertex in subset])
