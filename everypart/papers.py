"""Papers that show a graph to be perfect or not, and can be checked."""

from everypart.cliques import is_nonempty_clique, is_nonempty_independent
from everypart.colorings import are_colors, is_coloring, subset_coloring
from everypart.errors import Undefined
from everypart.graphs import Graph
from everypart.kinds import is_pair
from everypart.limits import require_exhaustible
from everypart.minimal import clique_pairs
from everypart.perfect import first_bad_subset, is_perfect
from everypart.subsets import all_subsets, have_common, is_part, is_subset
from everypart.tables import chromatic_numbers, clique_numbers, independent_masks, largest_clique, mask_of


def imperfection_paper(graph):
    """The first bad subset and the clique pairs of its induced graph, told in the vertices of graph."""
    subset = first_bad_subset(graph)
    if subset is None:
        raise Undefined("paper")
    pairs = clique_pairs(graph.induced(subset))
    return subset, tuple([(named(clique, subset), named(missed, subset)) for clique, missed in pairs])


def named(places, subset):
    """The vertices of the subset that stand at these places."""
    return tuple([subset[place] for place in places])


def is_imperfection_paper(graph, paper):
    """Whether a value of any kind is an imperfection paper of the graph."""
    if not is_pair(paper):
        return False
    subset, pairs = paper
    if not is_subset(subset, graph.size) or not isinstance(pairs, tuple) or len(pairs) != len(subset):
        return False
    if not all([is_pair_within(graph, subset, pair) for pair in pairs]):
        return False
    return have_sizes(pairs) and pair_off(pairs)


def is_pair_within(graph, subset, value):
    """Whether value is a pair of a clique and an independent set, not empty, within the subset."""
    if not is_pair(value):
        return False
    clique, missed = value
    if not is_nonempty_clique(graph, clique) or not is_nonempty_independent(graph, missed):
        return False
    return is_part(clique, subset) and is_part(missed, subset)


def have_sizes(pairs):
    """Whether all cliques have one size w, all independent sets one size a, and there are a * w + 1 pairs."""
    sizes = [(len(clique), len(missed)) for clique, missed in pairs]
    if not sizes or sizes.count(sizes[0]) != len(sizes):
        return False
    w, a = sizes[0]
    return w >= 2 and a >= 2 and a * w + 1 == len(sizes)


def pair_off(pairs):
    """Whether each clique misses the independent set at its own place and meets all others."""
    places = range(len(pairs))
    return all([have_common(pairs[one][0], pairs[other][1]) == (one != other) for one in places for other in places])


def circular_paper(w, a):
    """The imperfection paper of Graph.circular(w, a)."""
    graph = Graph.circular(w, a)
    return tuple(graph), tuple(sorted([circular_pair(w, a, start) for start in graph]))


def circular_pair(w, a, start):
    """The w vertices that end ahead of start along the ring, and a vertices from it on, w steps apart."""
    size = a * w + 1
    clique = sorted([(start - step) % size for step in range(1, w + 1)])
    missed = sorted([(start + step * w) % size for step in range(a)])
    return tuple(clique), tuple(missed)


def perfection_paper(graph):
    """For each non-empty subset a clique and a coloring with as many colors."""
    if not is_perfect(graph):
        raise Undefined("paper")
    cliques = clique_numbers(graph)
    sets = independent_masks(graph)
    colors = chromatic_numbers(sets)
    subsets = nonempty_subsets(graph.size)
    return tuple([(largest_clique(mask_of(part), cliques), subset_coloring(part, sets, colors)) for part in subsets])


def is_perfection_paper(graph, paper):
    """Whether a value of any kind is a perfection paper of the graph."""
    require_exhaustible(graph)
    subsets = nonempty_subsets(graph.size)
    if not isinstance(paper, tuple) or len(paper) != len(subsets):
        return False
    return all([is_perfection_pair(graph, subset, pair) for subset, pair in zip(subsets, paper)])


def is_perfection_pair(graph, subset, value):
    """Whether value is a pair of a clique within the subset and a coloring with as many colors."""
    if not is_pair(value):
        return False
    clique, coloring = value
    if not is_nonempty_clique(graph, clique) or not is_part(clique, subset):
        return False
    if not are_colors(coloring) or len(coloring) != len(subset) or len(set(coloring)) != len(clique):
        return False
    return is_coloring(graph.induced(subset), coloring)


def nonempty_subsets(size):
    """All subsets but the empty one, in the order of subsets."""
    return [subset for subset in all_subsets(size) if subset]
