"""Colorings of a graph."""

from everypart.errors import InvalidColoring, InvalidOrder
from everypart.kinds import is_between, is_order
from everypart.limits import MOST_VERTICES, require_exhaustible
from everypart.tables import chromatic_numbers, color_masks, has_vertex, independent_masks, mask_of


def is_coloring(graph, coloring):
    """Whether the numbers differ at the ends of each edge."""
    if not are_colors(coloring) or len(coloring) != graph.size:
        raise InvalidColoring(coloring)
    return all([coloring[one] != coloring[other] for one, other in graph.edges])


def normal_form(coloring):
    """The numbers exchanged so that each new one is the least that has not come."""
    if not are_colors(coloring) or len(coloring) > MOST_VERTICES:
        raise InvalidColoring(coloring)
    names = {}
    for number in coloring:
        names.setdefault(number, len(names))
    return tuple([names[number] for number in coloring])


def chromatic_number(graph):
    """The fewest colors of a coloring."""
    require_exhaustible(graph)
    return chromatic_numbers(independent_masks(graph))[-1]


def optimal_coloring(graph):
    """Some coloring with the fewest colors, in normal form."""
    require_exhaustible(graph)
    sets = independent_masks(graph)
    return subset_coloring(tuple(graph), sets, chromatic_numbers(sets))


def greedy_coloring(graph, order):
    """The coloring in which each vertex in order gets the least number that no neighbor has yet."""
    if not is_order(order, graph.size):
        raise InvalidOrder(order)
    colors = {}
    for vertex in order:
        taken = [colors[neighbor] for neighbor in graph.neighbors(vertex) if neighbor in colors]
        colors[vertex] = least_missing(taken)
    return tuple([colors[vertex] for vertex in graph])


def subset_coloring(subset, sets, numbers):
    """Some coloring of the induced graph with the fewest colors, in normal form, by the tables of the graph."""
    colors = color_masks(mask_of(subset), sets, numbers)
    return normal_form(tuple([color_of(vertex, colors) for vertex in subset]))


def color_of(vertex, colors):
    """The place of the mask that has the vertex."""
    return [color for color, members in enumerate(colors) if has_vertex(members, vertex)][0]


def are_colors(value):
    """Whether value is a tuple of numbers that colors may have."""
    if not isinstance(value, tuple):
        return False
    return all([is_between(number, 0, MOST_VERTICES - 1) for number in value])


def least_missing(numbers):
    """The least number that is not among these."""
    least = 0
    while least in numbers:
        least += 1
    return least
