"""Bases: [2], [6], [42], [46], [47], [49]."""

import unittest

from edgesaway.bases import Base
from edgesaway.deals import Deal
from edgesaway.errors import BadEdge, Firm, Gone, Held, There, TooLarge, TooMany
from edgesaway.graphs import difference
from tests.stored import PLAIN, graph_told, some_changes
from tests.support import all_edges, by_chance, fits_rules, raised, some_graph

GRAPH = ((0, 0, 1), (0, 1, 2), (1, 3, 1))
# All edges of labels 0, 2 and 3: 108 of them.
FULL = tuple(edge for edge in all_edges(PLAIN) if edge[1] != 1)


def state_of(base):
    return base.schema, base.graph, base.position, base.meters, base.asked, base.open_deals


class Bases(unittest.TestCase):
    def test_at_first(self):
        base = Base(PLAIN, GRAPH)
        self.assertEqual(state_of(base), (PLAIN, GRAPH, 0, (0, 0, 0, 0), 0, 0))
        self.assertEqual(base.graph_at(0), GRAPH)

    def test_a_commit(self):
        base = Base(PLAIN, GRAPH)
        changes = (("put", 2, 2, 2), ("put", 1, 0, 1), ("take", 0, 1, 2), ("put", 0, 1, 3), ("take", 0, 0, 1))
        self.assertEqual(base.commit(changes), 1)
        graph = ((0, 1, 3), (1, 0, 1), (1, 3, 1), (2, 2, 2))
        self.assertEqual(state_of(base), (PLAIN, graph, 1, (2, 4, 3, 0), 0, 0))
        told = (("take", 0, 0, 1), ("take", 0, 1, 2), ("put", 0, 1, 3), ("put", 1, 0, 1), ("put", 2, 2, 2))
        self.assertEqual(base.difference_at(1), told)
        self.assertEqual((base.graph_at(0), base.graph_at(1)), (GRAPH, graph))

    def test_an_empty_difference(self):
        base = Base(PLAIN, GRAPH)
        for changes in ((), (("put", 2, 0, 2), ("take", 2, 0, 2)), (("take", 0, 1, 2), ("put", 0, 1, 2))):
            self.assertEqual(base.commit(changes), 0)
            self.assertEqual(state_of(base), (PLAIN, GRAPH, 0, (0, 0, 0, 0), 0, 0))
        # What is taken back within a commit is no part of its difference, and no meter goes on by it.
        base.commit((("put", 2, 0, 2), ("put", 3, 2, 3), ("take", 2, 0, 2)))
        self.assertEqual((base.difference_at(1), base.meters), ((("put", 3, 2, 3),), (0, 0, 3, 0)))

    def test_errors_of_changes(self):
        base = Base(PLAIN, GRAPH)
        base.commit((("put", 5, 0, 5),))
        ahead = state_of(base)
        for kind, told, *changes in (
            (BadEdge, (0, 0, 6), ("put", 0, 0, 6)), (Firm, "f", ("put", 0, 3, 0)), (There, (0, 0, 1), ("put", 0, 0, 1)),
            (Held, (0, 1, 2), ("put", 0, 1, 3)), (Gone, (0, 0, 2), ("take", 0, 0, 2)),
            (There, (2, 0, 2), ("put", 2, 0, 2), ("put", 2, 0, 2)), (Gone, (5, 0, 5), ("take", 5, 0, 5), ("take", 5, 0, 5)),
            (Firm, "f", ("take", 1, 3, 1), ("put", 9, 9, 9)), (BadEdge, (9, 9, 9), ("put", 9, 9, 9), ("take", 1, 3, 1)),
        ):
            self.assertEqual([*vars(raised(kind, base.commit, tuple(changes))).values()], [told])
            self.assertEqual(state_of(base), ahead)

    def test_a_hundred_edges(self):
        base = Base(PLAIN, FULL[:99])
        puts = [("put", *edge) for edge in all_edges(PLAIN) if edge[1] == 1 and fits_rules(PLAIN, [edge])]
        puts = (puts[0], puts[6], puts[12])
        self.assertEqual(base.commit(puts[:1]), 1)
        ahead = state_of(base)
        self.assertEqual(raised(TooLarge, base.commit, puts[1:2]).part, "graph")
        self.assertEqual(state_of(base), ahead)
        # In between there can be more.
        take = ("take", *[edge for edge in FULL if edge[1] == 0][0])
        self.assertEqual(base.commit((puts[1], take)), 2)
        self.assertEqual(raised(Gone, base.commit, (puts[2], take)).edge, take[1:])
        self.assertEqual(len(base.graph), 100)

    def test_the_past(self):
        chance = by_chance(491)
        for _ in range(20):
            graph = some_graph(PLAIN, chance, 12)
            base = Base(PLAIN, graph)
            graphs = [graph]
            for _ in range(15):
                changes = some_changes(PLAIN, graphs[-1], chance, 4, 100)
                graph = graph_told(graphs[-1], changes)
                if graph != graphs[-1]:
                    graphs.append(graph)
                self.assertEqual(base.commit(changes), len(graphs) - 1)
            prices = [0, 0, 0, 0]
            for position, (graph, behind) in enumerate(zip(graphs, graphs[1:]), 1):
                self.assertEqual(base.graph_at(position), behind)
                self.assertEqual(base.difference_at(position), difference(graph, behind))
                for _, _, label, _ in difference(graph, behind):
                    prices[label] += label + 1
            self.assertEqual((base.graph_at(0), base.graph, base.meters), (graphs[0], graphs[-1], tuple(prices)))

    def test_open_deals(self):
        base = Base(PLAIN, GRAPH)
        deals = [base.deal() for _ in range(12)]
        self.assertTrue(all(isinstance(deal, Deal) for deal in deals))
        self.assertEqual(base.open_deals, 12)
        self.assertEqual(raised(TooMany, base.deal).part, "deals")
        self.assertEqual(base.open_deals, 12)
        deals[3].drop()
        deals[3].drop()
        self.assertEqual(base.open_deals, 11)
        deals[4].commit()
        base.deal()
        self.assertEqual(base.open_deals, 11)
        base.deal()
        raised(TooMany, base.deal)
        with deals[0]:
            raised(TooMany, base.deal)
        self.assertEqual(base.open_deals, 11)
        self.assertFalse(base.deal().ended)


if __name__ == "__main__":
    unittest.main()
