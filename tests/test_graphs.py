"""Graphs of any nodes: where all ways end, ways that do not, and ways to goals."""

import random
import unittest

from dutyweeks.graphs import days_left, longest_way, round_from, way_to

# From 0 ways end by 1 or 2; from 3 on they may go round 4 and 5, or end.
GRAPH = {
    0: [("a", 1), ("b", 2)], 1: [], 2: [("a", 1), ("b", 1)],
    3: [("a", 0), ("b", 4)], 4: [("a", 5), ("b", 6)], 5: [("c", 6), ("d", 4)], 6: [],
}


def days_of(graph, node, most):
    """The greatest number of steps from the node, None if it is more than most."""
    days = [days_of(graph, later, most - 1) if most else None for _, later in graph[node]]
    return None if None in days else 1 + max(days, default=-1)


class GraphsTest(unittest.TestCase):
    def test_days_left(self):
        self.assertEqual(days_left(GRAPH), {0: 2, 1: 0, 2: 1, 6: 0})
        self.assertEqual(days_left({0: [("a", 0)]}), {})
        self.assertEqual(days_left({0: []}), {0: 0})

    def test_days_left_of_many_graphs(self):
        source = random.Random(3)
        for _ in range(200):
            many = source.randint(1, 7)
            graph = {node: [(k, source.randrange(many)) for k in range(source.choice((0, 1, 1, 2)))] for node in range(many)}
            days = {node: days_of(graph, node, many) for node in graph}
            self.assertEqual(days_left(graph), {node: days[node] for node in days if days[node] is not None})

    def test_round_from(self):
        self.assertEqual(round_from(GRAPH, days_left(GRAPH), 3), (("b",), ("a", "d")))
        self.assertEqual(round_from(GRAPH, days_left(GRAPH), 4), ((), ("a", "d")))
        self.assertEqual(round_from({0: [("a", 0)]}, {}, 0), ((), ("a",)))

    def test_way_to(self):
        self.assertEqual(way_to(GRAPH, 3, [3, 4]), ((), 3))
        self.assertEqual(way_to(GRAPH, 3, [1]), (("a", "a"), 1))
        self.assertEqual(way_to(GRAPH, 3, [6, 5]), (("b", "a"), 5))
        self.assertEqual(way_to(GRAPH, 3, [2, 1]), (("a", "a"), 1))
        self.assertIsNone(way_to(GRAPH, 0, [3, 4]))
        self.assertIsNone(way_to(GRAPH, 3, []))

    def test_longest_way(self):
        days = days_left(GRAPH)
        for node, deals in ((0, ("b", "a")), (1, ()), (2, ("a",)), (6, ())):
            self.assertEqual(longest_way(GRAPH, days, node), deals)
        self.assertEqual(longest_way({0: [("a", 2), ("b", 1)], 1: [("c", 2)], 2: []}, {0: 2, 1: 1, 2: 0}, 0), ("b", "c"))


if __name__ == "__main__":
    unittest.main()
