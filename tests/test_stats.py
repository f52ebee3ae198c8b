"""Statistics: [33]."""

import unittest

from edgesaway.graphs import changed, difference
from edgesaway.stats import stats_behind, stats_of
from tests.support import FLAT, PAIR, TOWN, by_chance, some_graph

NONE = (0, 0, 0)


def stats_told(schema, graph):
    rows = []
    for label in range(len(schema[2])):
        edges = [edge for edge in graph if edge[1] == label]
        rows.append((len(edges), len({x for x, _, _ in edges}), len({y for _, _, y in edges})))
    return "stats", tuple(rows)


class Stats(unittest.TestCase):
    def test_told(self):
        graph = ((0, 0, 1), (0, 0, 2), (0, 1, 3), (1, 1, 3), (2, 1, 3), (2, 1, 4), (2, 4, 2))
        told = ("stats", ((2, 1, 2), (4, 3, 2), NONE, NONE, (1, 1, 1), NONE, NONE, NONE))
        self.assertEqual(stats_of(TOWN, graph), told)
        self.assertEqual(stats_of(TOWN, ()), ("stats", (NONE,) * 8))

    def test_by_chance(self):
        chance = by_chance(151)
        for _ in range(50):
            schema = chance.choice((FLAT, PAIR, TOWN))
            graph = some_graph(schema, chance, chance.randrange(15))
            self.assertEqual(stats_of(schema, graph), stats_told(schema, graph))


class Behind(unittest.TestCase):
    GRAPH = ((0, 0, 1), (0, 0, 2), (1, 0, 2), (1, 1, 3))

    def behind(self, *changes):
        stats = stats_of(TOWN, self.GRAPH)
        told = stats_behind(TOWN, stats, self.GRAPH, changes)
        self.assertEqual(told, stats_told(TOWN, changed(TOWN, self.GRAPH, changes)))
        self.assertEqual(stats, stats_told(TOWN, self.GRAPH))
        return told[1]

    def test_takes(self):
        self.assertEqual(self.behind(("take", 0, 0, 2))[0], (2, 2, 2))
        self.assertEqual(self.behind(("take", 0, 0, 1))[0], (2, 2, 1))
        self.assertEqual(self.behind(("take", 1, 0, 2))[0], (2, 1, 2))
        self.assertEqual(self.behind(("take", 1, 1, 3))[1], NONE)

    def test_puts(self):
        self.assertEqual(self.behind(("put", 1, 0, 1))[0], (4, 2, 2))
        self.assertEqual(self.behind(("put", 2, 0, 0))[0], (4, 3, 3))
        self.assertEqual(self.behind(("put", 2, 6, 2))[6], (1, 1, 1))

    def test_several(self):
        self.assertEqual(self.behind(), stats_told(TOWN, self.GRAPH)[1])
        rows = self.behind(("take", 0, 0, 2), ("take", 0, 0, 1), ("put", 1, 1, 4), ("take", 1, 1, 3))
        self.assertEqual(rows[:2], ((1, 1, 1), (1, 1, 1)))

    def test_undone(self):
        told = stats_told(TOWN, self.GRAPH)[1]
        self.assertEqual(self.behind(("take", 0, 0, 1), ("put", 0, 0, 1)), told)
        self.assertEqual(self.behind(("put", 2, 4, 2), ("take", 2, 4, 2)), told)
        rows = self.behind(("put", 2, 2, 3), ("take", 2, 2, 3), ("put", 2, 2, 4))
        self.assertEqual(rows[2], (1, 1, 1))

    def test_by_chance(self):
        chance = by_chance(152)
        for _ in range(80):
            schema = chance.choice((PAIR, TOWN))
            graph, other = (some_graph(schema, chance, chance.randrange(12)) for _ in range(2))
            firm = tuple(edge for edge in graph if schema[2][edge[1]][3] == 0)
            other = tuple(sorted((*firm, *[edge for edge in other if schema[2][edge[1]][3]])))
            told = stats_behind(schema, stats_of(schema, graph), graph, difference(graph, other))
            self.assertEqual(told, stats_told(schema, other))


if __name__ == "__main__":
    unittest.main()
