"""Promise [23]: graphs of intervals."""

import unittest

from everypart.chordal import elimination_order, is_elimination_order
from everypart.errors import InvalidIntervals
from everypart.graphs import Graph
from everypart.intervals import busiest, interval_graph, rooms
from everypart.perfect import is_perfect
from tests.helpers import Dice, assert_error, assert_tuples, exchanged, nested, values_of_all_kinds, variants

ALL = (interval_graph, rooms, busiest)


def points_of(interval, closed):
    """All points of a short interval, in halves."""
    begin, end = interval
    return set(range(2 * begin, 2 * end + 1)) if closed else set(range(2 * begin, 2 * end))


def rooms_plainly(intervals, closed):
    colors = {}
    for place in sorted(range(len(intervals)), key=lambda k: (intervals[k][0], k)):
        here = points_of(intervals[place], closed)
        taken = {colors[other] for other in colors if here & points_of(intervals[other], closed)}
        colors[place] = min(set(range(len(intervals))) - taken)
    return tuple(colors[place] for place in range(len(intervals)))


def busiest_plainly(intervals, closed):
    best = None
    for point in sorted(begin for begin, _ in intervals):
        holding = tuple(k for k, interval in enumerate(intervals) if 2 * point in points_of(interval, closed))
        if best is None or len(holding) > len(best[1]):
            best = (point, holding)
    return best


def cases():
    """Intervals that may be closed or half open, and whether they are."""
    for seed in range(160):
        dice = Dice(seed)
        count, far, long = 1 + dice.below(24), 1 + dice.below(12), 1 + dice.below(6)
        closed = bool(dice.below(2))
        intervals = []
        for _ in range(count):
            begin = dice.below(2 * far) - far
            intervals.append((begin, begin + dice.below(long) + (0 if closed else 1)))
        yield tuple(intervals), closed


class IntervalsTest(unittest.TestCase):

    def test_many(self):
        for intervals, closed in cases():
            size = len(intervals)
            known = [(i, j) for i in range(size) for j in range(i + 1, size)
                     if points_of(intervals[i], closed) & points_of(intervals[j], closed)]
            self.assertEqual(interval_graph(intervals=intervals, closed=closed), Graph(size, known))
            self.assertEqual(rooms(intervals=intervals, closed=closed), rooms_plainly(intervals, closed))
            self.assertEqual(busiest(intervals=intervals, closed=closed), busiest_plainly(intervals, closed))
            for call in ALL:
                self.assertEqual(call(list(intervals), closed=closed), call(intervals, closed=closed))
                if closed:
                    self.assertEqual(call(intervals), call(intervals, closed=True))
            assert_tuples(self, rooms(intervals, closed=closed))
            assert_tuples(self, busiest(intervals, closed=closed))

    def test_rooms_and_busiest_agree_and_the_graph_has_an_order(self):
        for intervals, closed in cases():
            colors = rooms(intervals, closed=closed)
            self.assertEqual(max(colors) + 1, len(busiest(intervals, closed=closed)[1]))
            self.assertEqual(set(colors), set(range(max(colors) + 1)))
            graph = interval_graph(intervals, closed=closed)
            self.assertTrue(all(colors[a] != colors[b] for a, b in graph.edges))
            self.assertIs(is_elimination_order(graph, elimination_order(graph)), True)
            self.assertIs(is_perfect(interval_graph(intervals[:8], closed=closed)), True)

    def test_intervals_that_touch(self):
        touching = ((0, 2), (2, 4), (4, 5))
        self.assertEqual(interval_graph(touching), Graph.path(3))
        self.assertEqual(interval_graph(touching, closed=True), Graph.path(3))
        self.assertEqual(interval_graph(touching, closed=False), Graph.edgeless(3))
        self.assertEqual(rooms(touching), (0, 1, 0))
        self.assertEqual(rooms(touching, closed=False), (0, 0, 0))
        self.assertEqual(busiest(touching), (2, (0, 1)))
        self.assertEqual(busiest(touching, closed=False), (0, (0,)))
        self.assertEqual(interval_graph(((0, 1), (2, 3))), Graph.edgeless(2))

    def test_intervals_of_one_point(self):
        points = ((3, 3), (3, 3), (1, 3), (4, 4), (0, 9))
        self.assertEqual(interval_graph(points), Graph(5, ((0, 1), (0, 2), (0, 4), (1, 2), (1, 4), (2, 4), (3, 4))))
        self.assertEqual(busiest(points), (3, (0, 1, 2, 4)))
        self.assertEqual(rooms(points), (2, 3, 1, 1, 0))
        for call in ALL:
            assert_error(self, InvalidIntervals, lambda: call(points, closed=False), place=0)
            assert_error(self, InvalidIntervals, lambda: call(((0, 1), (2, 2)), closed=False), place=1)
        self.assertEqual(busiest(((5, 5),)), (5, (0,)))

    def test_order_of_like_begins(self):
        self.assertEqual(rooms(((1, 2), (0, 5), (1, 9), (0, 1))), (2, 0, 3, 1))
        self.assertEqual(rooms(((1, 2), (0, 5), (1, 9), (0, 1)), closed=False), (1, 0, 2, 1))
        self.assertEqual(rooms(((0, 9), (0, 1), (5, 6))), (0, 1, 1))
        self.assertEqual(busiest(((7, 8), (7, 9), (0, 1), (0, 2))), (0, (2, 3)))

    def test_far_ends(self):
        far = 10 ** 11
        intervals = ((-far, far), (far, far + 1), (-far - 1, -far))
        self.assertEqual(interval_graph(intervals), Graph(3, ((0, 1), (0, 2))))
        self.assertEqual(interval_graph(intervals, closed=False), Graph.edgeless(3))
        self.assertEqual(busiest(intervals), (-far, (0, 2)))
        self.assertEqual(rooms(intervals), (1, 0, 0))

    def test_24_and_25_intervals(self):
        self.assertEqual(interval_graph([(0, 1)] * 24), Graph.complete(24))
        self.assertEqual(rooms([(0, 1)] * 24), tuple(range(24)))
        self.assertEqual(busiest([(0, 1)] * 24), (0, tuple(range(24))))
        for call in ALL:
            assert_error(self, InvalidIntervals, lambda: call([(0, 1)] * 25), place=0)
            assert_error(self, InvalidIntervals, lambda: call(((0, 1),) * 3 + ((1, 0),) + ((0, 1),) * 21), place=0)
            assert_error(self, InvalidIntervals, lambda: call(((0, 1),) * 23 + ((1, 0),)), place=23)

    def test_the_sequence_stays(self):
        intervals = [(3, 4), (0, 3), (3, 3)]
        for call in ALL:
            call(intervals)
        self.assertEqual(intervals, [(3, 4), (0, 3), (3, 3)])

    def test_closed_by_name_alone(self):
        for call in ALL:
            with self.assertRaises(TypeError):
                call(((0, 1),), False)


class ErrorsTest(unittest.TestCase):

    def test_no_sequence(self):
        for call in ALL:
            for value in (None, 0, True, "", "ab", (), [], Graph.path(2), Graph.path(1)):
                for closed in (True, False):
                    assert_error(self, InvalidIntervals, lambda: call(value, closed=closed), place=0)

    def test_the_first_wrong_one(self):
        values = values_of_all_kinds() + list(variants((2, 3))) + list(exchanged((4, 9), (None, True, "5")))
        wrong = [value for value in values if not is_interval_plainly(value)]
        for call in ALL:
            for value in wrong + [(1, 0), (0, -1), [0, 1], (0, 1, 2), (0,), (), (False, 1), (0, True), ((0, 1),), "01",
                                  nested((0, 1), 8), (10 ** 11, -10 ** 11)]:
                for place in (0, 1, 3):
                    intervals = [(0, 1), (-5, 7), (3, 4), (0, 1)]
                    intervals[place] = value
                    for closed in (True, False):
                        assert_error(self, InvalidIntervals, lambda: call(intervals, closed=closed), place=place)
                        assert_error(self, InvalidIntervals, lambda: call(tuple(intervals + [None]), closed=closed),
                                     place=place)


def is_interval_plainly(value):
    if value.__class__ is not tuple or len(value) != 2 or any(end.__class__ is not int for end in value):
        return False
    return value[0] <= value[1]


if __name__ == "__main__":
    unittest.main()
