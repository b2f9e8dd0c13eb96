"""Numbers of all induced graphs of a small graph at once.

A set of vertices is told by its mask here: the integer in which bit k tells whether vertex k
is in it. The tables are lists by mask; a mask without its last vertex is a lesser one, so that
each number rests on those ahead of it.
"""


def mask_of(subset):
    """The mask of the vertices of subset."""
    return sum([1 << vertex for vertex in subset])


def subset_of(mask):
    """The subset with this mask."""
    return tuple([vertex for vertex in range(mask.bit_length()) if has_vertex(mask, vertex)])


def has_vertex(mask, vertex):
    """Whether the vertex is in the set with this mask."""
    return (mask >> vertex) & 1 == 1


def is_within(part, mask):
    """Whether all vertices of the mask part are in the other mask."""
    return part & mask == part


def clique_numbers(graph):
    """The clique number of each induced graph, by mask (0 of no vertices)."""
    rows = [mask_of(graph.neighbors(vertex)) for vertex in graph]
    numbers = [0]
    for mask in range(1, 1 << graph.size):
        last = mask.bit_length() - 1
        rest = mask ^ (1 << last)
        numbers.append(max(numbers[rest], 1 + numbers[rest & rows[last]]))
    return numbers


def largest_clique(mask, numbers):
    """Some greatest clique within the mask, by the table of clique numbers."""
    left = mask
    # When no vertex can go without lessening the number, each one left is in every greatest clique.
    for vertex in subset_of(mask):
        rest = left ^ (1 << vertex)
        if numbers[rest] == numbers[mask]:
            left = rest
    return subset_of(left)


def independent_masks(graph):
    """For each vertex the list of the masks of the independent sets of which it is the last one."""
    found = []
    for vertex in graph:
        own = 1 << vertex
        barred = mask_of(graph.neighbors(vertex))
        longer = [own | mask for row in found for mask in row if (mask & barred) == 0]
        found.append([own] + longer)
    return found


def chromatic_numbers(sets):
    """The chromatic number of each induced graph, by mask (0 of no vertices), from its independent_masks."""
    numbers = [0]
    for mask in range(1, 1 << len(sets)):
        # Some color has the last vertex, so it is enough to try the sets that end with it.
        last = mask.bit_length() - 1
        numbers.append(1 + min([numbers[mask ^ part] for part in sets[last] if is_within(part, mask)]))
    return numbers


def color_masks(mask, sets, numbers):
    """The masks of the colors of some coloring of the mask with the fewest colors."""
    colors = []
    left = mask
    while left > 0:
        color = first_color(left, sets, numbers)
        colors.append(color)
        left = left ^ color
    return colors


def first_color(mask, sets, numbers):
    """The first independent set without which the mask needs one color less."""
    last = mask.bit_length() - 1
    inside = [part for part in sets[last] if is_within(part, mask)]
    return [part for part in inside if numbers[mask ^ part] < numbers[mask]][0]
