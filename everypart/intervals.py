"""Graphs of intervals that meet."""

from everypart.colorings import greedy_coloring
from everypart.errors import InvalidIntervals
from everypart.graphs import Graph
from everypart.kinds import is_integer, is_pair, is_sequence
from everypart.limits import MOST_VERTICES
from everypart.subsets import vertex_pairs


def interval_graph(intervals, *, closed=True):
    """The graph with a vertex for each interval, joined if they have a point in common."""
    require_intervals(intervals, closed)
    pairs = vertex_pairs(tuple(range(len(intervals))))
    met = [(one, other) for one, other in pairs if do_meet(intervals[one], intervals[other], closed)]
    return Graph(len(intervals), met)


def rooms(intervals, *, closed=True):
    """The coloring that gives each interval, by its begin, the least number that none it meets has yet."""
    graph = interval_graph(intervals, closed=closed)
    begins = sorted([(interval[0], place) for place, interval in enumerate(intervals)])
    return greedy_coloring(graph, tuple([place for begin, place in begins]))


def busiest(intervals, *, closed=True):
    """The least begin that lies in the most intervals, and these."""
    require_intervals(intervals, closed)
    begins = sorted([begin for begin, end in intervals])
    pairs = [(begin, places_with(begin, intervals, closed)) for begin in begins]
    most = max([len(places) for begin, places in pairs])
    return [(begin, places) for begin, places in pairs if len(places) == most][0]


def places_with(point, intervals, closed):
    """The places of the intervals in which the point lies."""
    spans = [(place, begin, end) for place, (begin, end) in enumerate(intervals)]
    return tuple([place for place, begin, end in spans if begin <= point and is_span(point, end, closed)])


def do_meet(interval, other, closed):
    """Whether two intervals have a point in common."""
    return is_span(max(interval[0], other[0]), min(interval[1], other[1]), closed)


def is_span(begin, end, closed):
    """Whether some point lies between begin and end, the end itself only if the intervals are closed."""
    return begin <= end if closed else begin < end


def require_intervals(intervals, closed):
    """Raise InvalidIntervals with the place of the first that is none."""
    if not is_sequence(intervals) or not 1 <= len(intervals) <= MOST_VERTICES:
        raise InvalidIntervals(0)
    for place, interval in enumerate(intervals):
        if not is_interval(interval, closed):
            raise InvalidIntervals(place)


def is_interval(value, closed):
    """Whether a value of any kind is a pair of integers with some point between them."""
    if not is_pair(value) or not is_integer(value[0]) or not is_integer(value[1]):
        return False
    return is_span(value[0], value[1], closed)
