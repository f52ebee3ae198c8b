"""Indexes: [33]."""

import unittest

from edgesaway.errors import Twice
from edgesaway.indexes import index_of
from tests.reckon import step
from tests.support import FLAT, PAIR, TOWN, by_chance, nodes_at, pairs_of, raised, some_expression, some_graph

GRAPH = ((0, 0, 1), (1, 0, 2), (2, 1, 4), (1, 2, 3))
STAR = ("star", step(0))


class Indexes(unittest.TestCase):
    def pairs(self, expression, start, end, graph=GRAPH):
        told = index_of(TOWN, graph, expression, start, end)
        self.assertEqual(told[:4], ("index", expression, start, end))
        self.assertEqual(len(told), 5)
        return told[4]

    def test_the_same_kind(self):
        self.assertEqual(self.pairs(step(0), 0, 0), ((0, 1), (1, 2)))
        self.assertEqual(self.pairs(step(0, 1), 0, 0), ((1, 0), (2, 1)))
        self.assertEqual(self.pairs(("plus", step(0)), 0, 0), ((0, 1), (0, 2), (1, 2)))

    def test_the_empty_word(self):
        self.assertEqual(self.pairs(STAR, 0, 0), ((0, 0), (0, 1), (0, 2), (1, 1), (1, 2), (2, 2)))
        self.assertEqual(self.pairs(STAR, 1, 1), ((3, 3), (4, 4)))
        self.assertEqual(self.pairs(STAR, 0, 1), ())
        self.assertEqual(self.pairs(("stay",), 0, 0, ()), ((0, 0), (1, 1), (2, 2)))

    def test_different_kinds(self):
        self.assertEqual(self.pairs(("then", STAR, step(1)), 0, 1), ((0, 4), (1, 4), (2, 4)))
        self.assertEqual(self.pairs(("then", step(1, 1), ("star", step(0, 1))), 1, 0), ((4, 0), (4, 1), (4, 2)))
        self.assertEqual(self.pairs(("then", STAR, step(1)), 1, 0), ())

    def test_ends_of_several_kinds(self):
        expression = ("then", STAR, ("maybe", step(1)))
        self.assertEqual(self.pairs(expression, 0, 0), self.pairs(STAR, 0, 0))
        self.assertEqual(self.pairs(expression, 0, 1), ((0, 4), (1, 4), (2, 4)))

    def test_a_kind_without_nodes(self):
        for start, end in ((0, 2), (2, 0), (2, 2)):
            self.assertEqual(self.pairs(("maybe", step(7)), start, end), ())

    def test_error(self):
        self.assertEqual(raised(Twice, index_of, TOWN, GRAPH, ("then", step(0), step(0)), 0, 0).name, "road")

    def test_by_chance(self):
        chance = by_chance(161)
        for _ in range(80):
            schema = chance.choice((FLAT, PAIR, TOWN))
            graph = some_graph(schema, chance, chance.randrange(12))
            expression = some_expression(schema, chance, list(range(6)))
            nodes = [node for kind in range(len(schema[1])) for node in nodes_at(schema, kind)]
            joined = pairs_of(expression, graph, nodes)
            for start in range(len(schema[1])):
                for end in range(len(schema[1])):
                    told = [(x, y) for x in nodes_at(schema, start) for y in nodes_at(schema, end) if (x, y) in joined]
                    self.assertEqual(index_of(schema, graph, expression, start, end)[4], tuple(sorted(told)))


if __name__ == "__main__":
    unittest.main()
