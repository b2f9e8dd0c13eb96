"""Promise [31]: graphs as texts."""

import re
import unittest

from everypart.errors import InvalidText
from everypart.graphs import Graph
from everypart.graphtexts import read_graph, write_graph
from tests.helpers import assert_error, chordal_graphs, graphs_up_to, some_graphs

SIGNS = "0129-+ \ngGx\t\r;,_."


def fault_plainly(text):
    """The place of the first wrong line of a text, or None."""
    at, size, before = 0, 0, (-1, -1)
    for place, line in enumerate(text.split("\n")):
        if place == 0:
            if not re.fullmatch("graph (0|[1-9][0-9]*)", line) or not 1 <= int(line[6:]) <= 24:
                return 0
            size = int(line[6:])
        else:
            found = re.fullmatch("(0|[1-9][0-9]*)-(0|[1-9][0-9]*)", line)
            if not found:
                return at
            edge = (int(found.group(1)), int(found.group(2)))
            if not edge[0] < edge[1] < size or edge <= before:
                return at
            before = edge
        at += len(line) + 1
    return None


def changed_texts(text):
    """The text with a sign or a line taken out, put in, exchanged or moved."""
    for place in range(len(text) + 1):
        yield text[:place]
        yield text[place:]
        yield text[:place] + text[place + 1:]
        for sign in SIGNS:
            yield text[:place] + sign + text[place:]
            yield text[:place] + sign + text[place + 1:]
    lines = text.split("\n")
    for place in range(len(lines)):
        ahead, behind = lines[:place], lines[place + 1:]
        for more in ([], [""], [lines[place]] * 2, [lines[place - 1]], ["0-1"], ["0-0"], ["1-0"], ["23-24"],
                     ["graph 3"], ["10-11"], [lines[place], "22-23", "0-2"], [" "], ["01-2"], ["1-02"], ["+1-2"],
                     ["-1-2"], ["1-2 "], [" 1-2"], ["1 - 2"], ["1-2-3"], ["12"], ["100-101"]):
            yield "\n".join(ahead + more + behind)


class TextsTest(unittest.TestCase):

    def check_round(self, graph):
        lines = ["graph " + str(graph.size)] + [str(a) + "-" + str(b) for a, b in graph.edges]
        text = write_graph(graph=graph)
        self.assertIs(text.__class__, str)
        self.assertEqual(text, "\n".join(lines))
        self.assertEqual(read_graph(text=text), graph)
        self.assertIs(read_graph(text).__class__, Graph)
        self.assertEqual(write_graph(read_graph(text)), text)
        self.assertEqual((read_graph(text), write_graph(graph)), (read_graph(text), text))

    def assert_fault(self, text, at):
        assert_error(self, InvalidText, lambda: read_graph(text), text=text, at=at)

    def check(self, text):
        at = fault_plainly(text)
        if at is None:
            self.assertEqual(write_graph(read_graph(text)), text)
        else:
            self.assert_fault(text, at)

    def test_there_and_back(self):
        for graph in graphs_up_to(4):
            self.check_round(graph)
        for size in (1, 2, 10, 11, 12, 23, 24):
            for graph in [Graph.edgeless(size), Graph.complete(size), Graph.path(size)] + list(some_graphs(size, 6)):
                self.check_round(graph)
        for graph in chordal_graphs():
            self.check_round(graph)

    def test_examples(self):
        self.assertEqual(write_graph(Graph.path(1)), "graph 1")
        self.assertEqual(write_graph(Graph(12, ((0, 9), (2, 10), (10, 11)))), "graph 12\n0-9\n2-10\n10-11")
        self.assertEqual(read_graph("graph 24"), Graph.edgeless(24))
        self.assertEqual(read_graph("graph 3\n0-1\n0-2"), Graph(3, ((0, 1), (0, 2))))

    def test_changed_texts(self):
        right = [write_graph(graph) for graph in (Graph.path(1), Graph.path(2), Graph.edgeless(2), Graph.complete(4),
                                                  Graph(11, ((0, 1), (0, 10), (1, 9), (9, 10))),
                                                  Graph(24, ((0, 23), (2, 3), (2, 10), (10, 20), (22, 23))))]
        wrong = 0
        for text in right + [write_graph(Graph.complete(12))[:120]]:
            for value in changed_texts(text):
                self.check(value)
                wrong += fault_plainly(value) is not None
        self.assertGreater(wrong, 5000)

    def test_first_lines(self):
        for text in ("", "\n", "graph", "graph ", "graph 0", "graph 25", "graph 01", "graph 1 ", " graph 1", "graph  1",
                     "Graph 1", "graph 100", "graph +1", "graph -1", "graph 1\r", "graph\t1", "graph one", "graph 1.0",
                     "0-1", "graph 1;", "graph \u0661", " 1\n", "graph 00", "graph 1_0", "\ufeffgraph 1",
                     "graph 025\n0-1", "graph 99999999999999999999\n0-1", "\ngraph 1", "graph3", "graph 3 0-1", "\x00"):
            self.assert_fault(text, 0)

    def test_line_feeds(self):
        self.assert_fault("graph 3\n", 8)
        self.assert_fault("graph 3\n0-1\n", 12)
        self.assert_fault("graph 3\n\n0-1", 8)
        self.assert_fault("graph 3\n0-1\n\n", 12)
        self.assert_fault("graph 12\n0-1\n\n0-2", 13)
        # Only a line feed parts lines.
        for sign in ("\r", "\r\n", "\x0b", "\x0c", "\x1c", "\x85", "\u2028", "\u2029", ";", "\t", " "):
            self.assert_fault("graph 3" + sign + "0-1", 0)
            self.assert_fault("graph 3\n0-1" + sign + "0-2\n1-2", 8)

    def test_edges(self):
        for line in ("0-3", "3-4", "1-0", "1-1", "0-01", "00-1", "01-2", "0-1 ", " 0-1", "0 -1", "0- 1", "0--1", "-0-1",
                     "0-+1", "0-1-2", "0", "-", "0-", "-1", "0,1", "a-b", "\u0660-\u0661", "0-\u00b9", "graph 3", "",
                     "0-1;", "0\u20131", "10-11", "0-100", "0-" + "1" * 1000, "True-2", "0-1.0", "0_0-1"):
            self.assert_fault("graph 3\n" + line, 8)
            self.assert_fault("graph 3\n" + line + "\n0-1\nx", 8)
            self.assert_fault("graph 3\n0-1\n" + line, 12)
            self.assert_fault("graph 10\n0-1\n0-2\n" + line.replace("3", "10") + "x", 17)

    def test_edges_that_do_not_ascend(self):
        for lines, at in (("0-1\n0-1", 12), ("0-2\n0-1", 12), ("1-2\n0-1\n0-2", 12), ("0-1\n0-2\n0-2", 16),
                          ("0-1\n1-2\n0-2", 16), ("0-2\n0-2\nx", 12)):
            self.assert_fault("graph 3\n" + lines, at)
        self.assert_fault("graph 11\n0-10\n0-9", 14)
        self.assertEqual(read_graph("graph 11\n0-9\n0-10\n2-3"), Graph(11, ((0, 9), (0, 10), (2, 3))))


if __name__ == "__main__":
    unittest.main()
