"""Perfect graphs."""

from everypart.limits import require_exhaustible
from everypart.subsets import all_subsets
from everypart.tables import chromatic_numbers, clique_numbers, independent_masks, mask_of


def is_perfect(graph):
    """Whether no subset is bad."""
    return first_bad_subset(graph) is None


def first_bad_subset(graph):
    """The first subset whose induced graph needs more colors than a clique of it has vertices, or None."""
    return first_of(bad_subsets(graph))


def first_large_subset(graph):
    """The first subset with more vertices than clique number times independence number, or None."""
    require_exhaustible(graph)
    cliques = clique_numbers(graph)
    independents = clique_numbers(~graph)
    bounds = [cliques[mask] * independents[mask] for mask in range(1 << graph.size)]
    return first_of([subset for subset in all_subsets(graph.size) if len(subset) > bounds[mask_of(subset)]])


def bad_subsets(graph):
    """All bad subsets, in the order of subsets."""
    require_exhaustible(graph)
    cliques = clique_numbers(graph)
    colors = chromatic_numbers(independent_masks(graph))
    masks = [(subset, mask_of(subset)) for subset in all_subsets(graph.size)]
    return [subset for subset, mask in masks if colors[mask] > cliques[mask]]


def first_of(subsets):
    """The first of a list, or None if it is empty."""
    return subsets[0] if subsets else None
