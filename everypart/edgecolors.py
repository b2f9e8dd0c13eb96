"""Colorings of the edges between two sides."""

from everypart.colorings import least_missing
from everypart.errors import InvalidGraph, InvalidNumber, Undefined
from everypart.graphs import Graph
from everypart.kinds import is_between, is_pair, is_sequence
from everypart.limits import MOST_ON_SIDE, MOST_VERTICES, require_vertices
from everypart.subsets import vertex_pairs


def edge_coloring(left, right, edges):
    """A number for each edge, distinct at each end, all below the load."""
    require_two_sides(left, right, edges)
    ends = [(first, left + second) for first, second in edges]
    colors = []
    for first, second in ends:
        # An end has fewer colored edges than the load, so that the least color that it lacks is below.
        color = least_missing(colors_at(first, ends, colors))
        free_color(second, color, ends, colors)
        colors.append(color)
    return tuple(colors)


def free_color(end, color, ends, colors):
    """Change colors so that the end has no edge of this color, and the one to be joined to it still has none."""
    # The path ends elsewhere than at the other end of the new edge: there, on the other side, it
    # would come in by the color itself, which that end lacks.
    spare = least_missing(colors_at(end, ends, colors))
    path = path_by_turns(end, color, spare, ends, colors)
    for place in path:
        colors[place] = color + spare - colors[place]


def path_by_turns(end, color, spare, ends, colors):
    """The places of the edges along the path from end that have this color and the spare one by turns."""
    path = []
    wanted = color
    places = places_at(end, wanted, ends, colors)
    while places:
        path.append(places[0])
        end = sum(ends[places[0]]) - end
        wanted = color + spare - wanted
        places = places_at(end, wanted, ends, colors)
    return path


def places_at(end, wanted, ends, colors):
    """The places, one or none, of the edges at this end that have the wanted color."""
    return [place for place, color in enumerate(colors) if color == wanted and end in ends[place]]


def colors_at(end, ends, colors):
    """The colors of the edges at this end that have one."""
    return [color for place, color in enumerate(colors) if end in ends[place]]


def line_graph(left, right, edges):
    """The graph with a vertex for each edge, joined if the edges have an end in common."""
    require_two_sides(left, right, edges)
    if len(edges) == 0:
        raise Undefined("graph")
    require_vertices(len(edges), MOST_VERTICES)
    pairs = vertex_pairs(tuple(range(len(edges))))
    return Graph(len(edges), [(one, other) for one, other in pairs if have_end(edges[one], edges[other])])


def have_end(edge, other):
    """Whether two edges have the same first or the same second member."""
    return edge[0] == other[0] or edge[1] == other[1]


def require_two_sides(left, right, edges):
    """Raise the error of the first argument that does not tell edges between two sides."""
    for number in (left, right):
        if not is_between(number, 1, MOST_ON_SIDE):
            raise InvalidNumber(number)
    if not is_sequence(edges):
        raise InvalidGraph("edges", 0)
    for place, edge in enumerate(edges):
        if not is_pair(edge) or not is_between(edge[0], 0, left - 1) or not is_between(edge[1], 0, right - 1):
            raise InvalidGraph("edges", place)
