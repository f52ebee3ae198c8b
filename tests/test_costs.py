"""What edges, states and ways cost: [20], [23]."""

import itertools
import unittest

from edgesaway.books import book_of
from edgesaway.costs import cheapest_way, cost_of, heights_of
from tests.reckon import cost_told, leads_told, step, walkable, way_walked
from tests.support import FLAT, PAIR, TOWN, all_edges, by_chance, some_book, some_graph

STAR = book_of(TOWN, ("star", step(0)))


def heights_told(schema, graph, book, x):
    """The least costs of all states, lowered edge by edge until nothing gets lower."""
    heights = {}
    edges = [(lead, cost_told(schema, graph, lead[0])) for lead in leads_told(walkable(schema, graph), book)]
    while True:
        lower = dict(heights)
        for (_, (u, a), state), cost in edges:
            ahead = [0] if u == x and a in book[3] else []
            ahead += [lower[(u, p)] for p, b in book[4] if b == a and (u, p) in lower]
            if ahead:
                lower[state] = min(lower.get(state, 1000), min(ahead) + cost)
        if lower == heights:
            return tuple(sorted((node, label, height) for (node, label), height in heights.items()))
        heights = lower


class Costs(unittest.TestCase):
    def test_an_edge_there(self):
        graph = ((0, 0, 1), (0, 2, 3), (0, 3, 0), (1, 4, 1))
        for edge in graph:
            self.assertEqual(cost_of(TOWN, graph, edge), 0)

    def test_missing(self):
        graph = ((0, 0, 1), (0, 1, 3), (2, 2, 3))
        self.assertEqual(cost_of(TOWN, graph, (0, 0, 2)), 2)
        self.assertEqual(cost_of(TOWN, graph, (0, 1, 4)), 3)
        self.assertEqual(cost_of(TOWN, graph, (1, 4, 1)), 1)
        self.assertEqual(cost_of(TOWN, graph, (4, 5, 4)), 4)
        self.assertEqual(cost_of(TOWN, (), (0, 0, 1)), 2)

    def test_firm(self):
        self.assertIsNone(cost_of(TOWN, (), (0, 3, 1)))
        self.assertIsNone(cost_of(TOWN, ((0, 3, 2), (1, 3, 1)), (0, 3, 1)))
        self.assertEqual(cost_of(TOWN, ((0, 3, 1),), (0, 3, 1)), 0)

    def test_firm_and_single(self):
        schema = ("schema", (("n", 2),), (("p", 0, 0, 0, "single"),))
        self.assertIsNone(cost_of(schema, (), (0, 0, 1)))
        self.assertIsNone(cost_of(schema, ((0, 0, 0),), (0, 0, 1)))

    def test_single(self):
        graph = ((0, 0, 1), (0, 2, 3), (1, 6, 0))
        self.assertEqual(cost_of(TOWN, graph, (0, 2, 3)), 0)
        self.assertEqual(cost_of(TOWN, graph, (0, 2, 4)), 2)
        self.assertEqual(cost_of(TOWN, graph, (1, 2, 3)), 1)
        self.assertEqual(cost_of(TOWN, graph, (1, 6, 2)), 10)
        self.assertEqual(cost_of(TOWN, graph, (0, 6, 1)), 5)

    def test_all_edges(self):
        chance = by_chance(61)
        for _ in range(20):
            graph = some_graph(TOWN, chance, 8)
            for edge in all_edges(TOWN):
                self.assertEqual(cost_of(TOWN, graph, edge), cost_told(TOWN, graph, edge))


class Heights(unittest.TestCase):
    def test_told(self):
        graph = ((0, 0, 1),)
        self.assertEqual(heights_of(TOWN, graph, STAR, 0), ((0, 0, 2), (1, 0, 0), (2, 0, 2)))
        self.assertEqual(heights_of(TOWN, graph, STAR, 1), ((0, 0, 2), (1, 0, 2), (2, 0, 2)))
        self.assertEqual(heights_of(TOWN, ((0, 0, 1), (1, 0, 2)), STAR, 0), ((0, 0, 2), (1, 0, 0), (2, 0, 0)))

    def test_nothing_to_come_to(self):
        self.assertEqual(heights_of(TOWN, (), book_of(TOWN, step(3)), 0), ())
        self.assertEqual(heights_of(TOWN, (), STAR, 3), ())
        self.assertEqual(heights_of(TOWN, (), book_of(TOWN, step(7)), 0), ())
        self.assertEqual(heights_of(TOWN, ((0, 3, 1),), book_of(TOWN, ("star", step(3))), 0), ((1, 3, 0),))

    def test_back(self):
        book = book_of(TOWN, ("then", step(2, 1), step(0, 1)))
        graph = ((0, 0, 1), (1, 2, 4))
        # Node 1 is come to for 2, as its other edge has to be taken out first, and leads on to 0 for nothing.
        told = ((0, 0, 2), (0, 2, 1), (1, 0, 3), (1, 2, 2), (2, 0, 3), (2, 2, 1))
        self.assertEqual(heights_of(TOWN, graph, book, 3), told)

    def test_by_chance(self):
        chance = by_chance(62)
        for _ in range(150):
            schema = chance.choice((FLAT, PAIR, TOWN))
            graph = some_graph(schema, chance, chance.randrange(12))
            book = some_book(schema, chance, range(6))
            x = chance.randrange(4)
            self.assertEqual(heights_of(schema, graph, book, x), heights_told(schema, graph, book, x))


class Ways(unittest.TestCase):
    def test_told(self):
        self.assertEqual(cheapest_way(TOWN, ((0, 0, 1), (1, 0, 2)), STAR, 0, 2), ((0, 0, 1), (1, 0, 2)))
        self.assertEqual(cheapest_way(TOWN, (), STAR, 0, 2), ((0, 0, 2),))
        self.assertEqual(cheapest_way(TOWN, ((2, 2, 4),), book_of(TOWN, step(2, 1)), 4, 2), ((2, 2, 4),))

    def test_same_node(self):
        self.assertEqual(cheapest_way(TOWN, ((1, 0, 1),), STAR, 1, 1), ())
        self.assertEqual(cheapest_way(TOWN, (), book_of(TOWN, ("plus", step(0))), 1, 1), ((1, 0, 1),))
        graph = ((0, 0, 1), (1, 0, 0))
        self.assertEqual(cheapest_way(TOWN, graph, book_of(TOWN, ("plus", step(0))), 0, 0), graph)

    def test_none(self):
        self.assertIsNone(cheapest_way(TOWN, (), book_of(TOWN, step(3)), 0, 1))
        self.assertIsNone(cheapest_way(TOWN, ((0, 3, 2),), book_of(TOWN, ("star", step(3))), 0, 1))
        self.assertIsNone(cheapest_way(TOWN, (), STAR, 0, 3))
        self.assertIsNone(cheapest_way(TOWN, (), book_of(TOWN, ("stay",)), 0, 1))

    def test_nothing_twice(self):
        # Free edges lead around between 0 and 1; no way may leave or come to a node twice by one label.
        graph = ((0, 0, 0), (0, 0, 1), (1, 0, 0), (1, 0, 1))
        for x, y in itertools.product(range(3), range(3)):
            for expression in (("star", step(0)), ("plus", step(0)), ("plus", step(0, 1))):
                book = book_of(TOWN, expression)
                way = cheapest_way(TOWN, graph, book, x, y)
                cost = 0 if max(x, y) < 2 or (x == y and book[1]) else 2
                self.assertEqual(way_walked(TOWN, graph, book, x, y, way), cost)

    def test_single_held_along_the_way(self):
        schema = ("schema", (("n", 3),), (("p", 0, 0, 2, "single"), ("q", 0, 0, 5, "many")))
        graph = ((0, 0, 1), (1, 0, 1))
        book = book_of(schema, ("star", ("either", step(0), step(1))))
        way = cheapest_way(schema, graph, book, 0, 2)
        self.assertEqual(way_walked(schema, graph, book, 0, 2, way), 4)
        self.assertEqual(way_walked(schema, graph, book, 2, 0, cheapest_way(schema, graph, book, 2, 0)), 2)

    def test_by_chance(self):
        chance = by_chance(63)
        for _ in range(200):
            schema = chance.choice((FLAT, PAIR, TOWN))
            graph = some_graph(schema, chance, chance.randrange(12))
            book = some_book(schema, chance, range(6))
            x, y = chance.randrange(4), chance.randrange(4)
            ends = [height for node, b, height in heights_told(schema, graph, book, x) if node == y and b in book[5]]
            least = min([0] if book[1] and x == y else ends, default=None)
            way = cheapest_way(schema, graph, book, x, y)
            if way is None:
                self.assertIsNone(least)
            else:
                self.assertEqual(way_walked(schema, graph, book, x, y, way), least)


if __name__ == "__main__":
    unittest.main()
