"""Papers of a yes: [17], [18], [21]."""

import itertools
import unittest

from edgesaway.books import book_of
from edgesaway.flowing import yes_paper
from edgesaway.flows import judge_flow, judge_sure
from edgesaway.meaning import joined
from tests.reckon import paper_right, price_at, step
from tests.support import FLAT, PAIR, TOWN, by_chance, some_book, some_graph

# One kind of four nodes, labels with several prices, the last one firm.
DENSE = (
    "schema",
    (("n", 4),),
    (("p", 0, 0, 1, "many"), ("q", 0, 0, 2, "many"), ("r", 0, 0, 5, "many"), ("f", 0, 0, 0, "many")),
)


def least_cut(schema, graph, book, x, y):
    """The least price of edges without which x and y are not joined, by taking out all lots of edges; None if none."""
    edges = [edge for edge in graph if price_at(schema, edge[1])]
    prices = []
    for many in range(len(edges) + 1):
        for lot in itertools.combinations(edges, many):
            if not joined(schema, tuple(edge for edge in graph if edge not in lot), book, x, y):
                prices.append(sum(price_at(schema, edge[1]) for edge in lot))
    return min(prices, default=None)


def wide_book(schema, chance):
    """A book by which most edges of a graph can be walked, in most orders."""
    letters = [(label, 0 if schema[2][label][4] == "mark" else chance.randrange(2)) for label in range(len(schema[2]))]
    names = [label for label, _ in letters]
    follows = tuple(pair for pair in itertools.product(names, names) if chance.random() < 0.8)
    return ("book", 0, tuple(letters), tuple(names[:chance.randrange(1, 4)]), follows, tuple(names[-2:]))


class Papers(unittest.TestCase):
    def paper(self, schema, graph, book, x, y):
        told = yes_paper(schema, graph, book, x, y)
        self.assertTrue(paper_right(schema, graph, book, x, y, told), told)
        judge = {"sure": judge_sure, "flow": judge_flow}[told[0]]
        self.assertIs(judge(schema, graph, book, x, y, told), True)
        return told

    def test_same_node(self):
        self.assertEqual(self.paper(FLAT, (), book_of(FLAT, ("star", step(0))), 1, 1), ("sure", ()))
        self.assertEqual(self.paper(FLAT, (), book_of(FLAT, ("stay",)), 1, 1), ("sure", ()))
        graph = ((1, 0, 1),)
        self.assertEqual(self.paper(FLAT, graph, book_of(FLAT, ("plus", step(0))), 1, 1)[1:3], (1, ((1, graph),)))

    def test_sure(self):
        graph = ((0, 0, 2), (0, 2, 1), (1, 2, 2))
        book = book_of(FLAT, ("star", ("either", step(0), step(2))))
        self.assertEqual(self.paper(FLAT, graph, book, 0, 2), ("sure", graph[1:]))
        self.assertEqual(self.paper(FLAT, graph[:2], book, 0, 2)[:2], ("flow", 1))

    def test_two_ways_at_once(self):
        # The first way that is found shares an edge with each of two others: it has to be given up for these.
        schema = ("schema", (("n", 6),), (("p", 0, 0, 1, "many"),))
        graph = ((0, 0, 1), (0, 0, 2), (1, 0, 4), (1, 0, 5), (2, 0, 4), (4, 0, 3), (5, 0, 3))
        self.assertEqual(self.paper(schema, graph, book_of(schema, ("star", step(0))), 0, 3)[1], 2)

    def test_bottleneck(self):
        # The same edge serves two words; it is taken out once, but lets through only its price.
        book = book_of(DENSE, ("then", ("either", step(0), step(2)), step(1)))
        graph = ((0, 0, 1), (0, 2, 1), (1, 1, 2))
        self.assertEqual(self.paper(DENSE, graph, book, 0, 2)[1], 2)

    def test_states_tell_nodes_apart(self):
        # 0 -p-> 1 -q-> 2 and 0 -q-> 1 do not make a way of p then q then r through node 1 alone.
        book = book_of(DENSE, ("then", step(0), ("then", step(1), step(2))))
        graph = ((0, 0, 1), (0, 1, 1), (1, 1, 1), (1, 2, 3))
        self.assertEqual(self.paper(DENSE, graph, book, 0, 3)[1], 1)

    def test_around(self):
        # The way has to go over the edge from 0 to 1 and back, and over a loop at 2.
        book = book_of(DENSE, ("then", ("plus", ("then", step(0), step(1))), ("then", step(2), ("star", step(3)))))
        graph = ((0, 0, 1), (1, 1, 0), (0, 2, 2), (2, 3, 2))
        told = self.paper(DENSE, tuple(sorted(graph)), book, 0, 2)
        self.assertEqual(told[1], 1)

    def test_loop_that_follows_itself(self):
        book = book_of(DENSE, ("star", ("either", step(0), step(2))))
        graph = ((0, 0, 0), (0, 2, 0), (0, 2, 1), (1, 0, 1), (1, 2, 1))
        self.assertEqual(self.paper(DENSE, graph, book, 0, 1)[1], 5)

    def test_firm_edges_between(self):
        book = book_of(DENSE, ("star", ("either", step(1), step(3))))
        graph = ((0, 1, 1), (0, 1, 2), (1, 3, 3), (2, 3, 3))
        told = self.paper(DENSE, graph, book, 0, 3)
        self.assertEqual(told[:2], ("flow", 4))
        self.assertEqual(self.paper(DENSE, (*graph[1:3], (0, 3, 2), (2, 3, 3)), book, 0, 3)[0], "sure")

    def test_all_that_changes_is_cut(self):
        # The price is that of all edges together, and firm edges lead to these and on from them.
        book = book_of(DENSE, ("then", step(3), ("then", step(1), step(2))))
        told = self.paper(DENSE, ((0, 3, 1), (1, 1, 2), (2, 2, 3)), book, 0, 3)
        self.assertEqual(told[:3], ("flow", 2, ((2, ((0, 3, 1), (1, 1, 2), (2, 2, 3))),)))
        book = book_of(DENSE, ("then", step(3), step(1)))
        self.assertEqual(self.paper(DENSE, ((0, 3, 1), (1, 1, 2)), book, 0, 2)[1], 2)
        book = book_of(DENSE, ("then", step(1), step(3)))
        self.assertEqual(self.paper(DENSE, ((0, 1, 1), (1, 3, 2)), book, 0, 2)[1], 2)

    def test_by_all_cuts(self):
        chance = by_chance(51)
        found = {}
        few = (DENSE[0], (("n", 3),), DENSE[2])
        for _ in range(1500):
            schema = chance.choice((few, few, DENSE, FLAT, PAIR, TOWN))
            graph = some_graph(schema, chance, chance.randrange(3, 12))
            book = chance.choice((some_book(schema, chance, range(len(schema[2]))), wide_book(schema, chance)))
            x, y = chance.randrange(3), chance.randrange(3)
            if not joined(schema, graph, book, x, y):
                continue
            told = self.paper(schema, graph, book, x, y)
            least = least_cut(schema, graph, book, x, y)
            self.assertEqual(told[0] == "sure", least is None)
            if least is not None:
                self.assertEqual(told[1], least)
            key = (told[0], min(len(told[2]), 2) if told[0] == "flow" else None)
            found[key] = found.get(key, 0) + 1
        self.assertGreater(min(found.get(key, 0) for key in (("sure", None), ("flow", 1), ("flow", 2))), 25, found)

    def test_great_graphs(self):
        chance = by_chance(52)
        schema = ("schema", (("n", 24),), tuple((name, 0, 0, 1 + at, "many") for at, name in enumerate("pqrstuvw")))
        for _ in range(12):
            graph = some_graph(schema, chance, 100)
            book = some_book(schema, chance, range(8))
            for y in (1, 2):
                if joined(schema, graph, book, 0, y):
                    told = yes_paper(schema, graph, book, 0, y)
                    judge = {"sure": judge_sure, "flow": judge_flow}[told[0]]
                    self.assertIs(judge(schema, graph, book, 0, y, told), True)


if __name__ == "__main__":
    unittest.main()
