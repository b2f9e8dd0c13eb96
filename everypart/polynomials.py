"""How many colorings a graph has, for every number of colors."""

from everypart.errors import InvalidNumber
from everypart.kinds import is_between
from everypart.limits import MOST_COLORS, require_exhaustible
from everypart.tables import independent_masks, is_within


def coloring_count(graph, colors):
    """How many tuples of so many colors, one for each vertex, are distinct at the ends of each edge."""
    if not is_between(colors, 0, MOST_COLORS):
        raise InvalidNumber(colors)
    count = 0
    for number in chromatic_polynomial(graph)[::-1]:
        count = count * colors + number
    return count


def chromatic_polynomial(graph):
    """The numbers by which the powers of k are taken in the count of colorings with k colors."""
    require_exhaustible(graph)
    counts = partition_counts(graph)
    numbers = []
    # A partition in p parts can be colored in k (k - 1) .. (k - p + 1) ways; the common factors stand outside.
    for parts in range(graph.size, -1, -1):
        numbers = times_less(numbers, parts)
        numbers[0] = numbers[0] + counts[parts]
    return tuple(numbers)


def times_less(numbers, parts):
    """The numbers of the product with k - parts, always a new list."""
    return [ahead - parts * own for ahead, own in zip([0] + numbers, numbers + [0])]


def partition_counts(graph):
    """In how many ways the vertices fall into 0, 1, .. independent sets."""
    sets = independent_masks(graph)
    rows = [[1] + [0] * graph.size]
    for mask in range(1, 1 << graph.size):
        # Some set has the last vertex; what it leaves falls into one set less.
        last = mask.bit_length() - 1
        rests = [rows[mask ^ part] for part in sets[last] if is_within(part, mask)]
        rows.append([0] + [sum([rest[parts] for rest in rests]) for parts in range(graph.size)])
    return rows[-1]
