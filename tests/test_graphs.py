"""Graphs and changes: [4], [6] and the first point of [42]; balls: [7]."""

import itertools
import unittest

from edgesaway.balls import ball
from edgesaway.errors import BadEdge, Firm, Gone, Held, There, TooMany
from edgesaway.graphs import apart, changed, difference, is_graph, outcome, price_of
from tests.support import FLAT, TOWN, all_edges, by_chance, fits_rules, raised, some_graph

GRAPH = ((0, 0, 1), (0, 2, 3), (0, 3, 2), (1, 4, 1), (1, 6, 0))


class IsGraph(unittest.TestCase):
    def test_right_ones(self):
        for graph in (GRAPH, (), tuple(sorted(edge for edge in all_edges(TOWN) if edge[1] in (0, 1, 3, 4, 5)))):
            self.assertIs(is_graph(TOWN, graph), True)
        self.assertIs(is_graph(TOWN, ((0, 2, 3), (0, 6, 0), (1, 2, 3))), True)

    def test_wrong_ones(self):
        wrong = [
            ((0, 0, 1), (0, 0, 1)),
            ((0, 0, 2), (0, 0, 1)),
            ((0, 2, 3), (0, 2, 4)),
            ((0, 6, 0), (0, 6, 1)),
            ((0, 4, 1),),
            ((0, 0, 3),),
            ((0, 7, 5),),
            ((-1, 0, 0),),
            ((0, -8, 0),),
            ((0, 8, 0),),
            ((0, 0, 5),),
            ((0, 0, 0), (0, 0, 99)),
        ]
        for graph in wrong:
            self.assertIs(is_graph(TOWN, graph), False, graph)

    def test_more_than_passed(self):
        schema = ("schema", (("a", 12),), (("l", 0, 0, 1, "many"),))
        self.assertIs(is_graph(schema, tuple(sorted(all_edges(schema)))), True)


class Outcome(unittest.TestCase):
    def test_words(self):
        told = [
            ("put", 0, 0, 1, "there"), ("put", 0, 0, 2, "done"), ("put", 0, 2, 3, "there"), ("put", 0, 2, 4, "held"),
            ("put", 1, 2, 4, "done"), ("put", 1, 4, 1, "there"), ("put", 2, 4, 2, "done"), ("put", 1, 6, 0, "there"),
            ("put", 1, 6, 1, "held"), ("take", 0, 0, 1, "done"), ("take", 0, 0, 2, "gone"), ("take", 0, 2, 4, "gone"),
            ("take", 0, 2, 3, "done"), ("take", 2, 4, 2, "gone"),
        ]
        for *change, word in told:
            self.assertEqual(outcome(TOWN, GRAPH, tuple(change)), word, change)

    def test_errors(self):
        for word in ("put", "take"):
            for edge in ((0, 0, 3), (0, 3, 3), (0, 4, 1), (-1, 0, 0), (0, -5, 1), (0, 8, 0), (0, 0, 5), (0, 7, 5)):
                self.assertEqual(raised(BadEdge, outcome, TOWN, GRAPH, (word, *edge)).edge, edge)
                self.assertEqual(raised(BadEdge, changed, TOWN, GRAPH, ((word, *edge),)).edge, edge)
            for edge in ((0, 3, 2), (0, 3, 1)):
                self.assertEqual(raised(Firm, outcome, TOWN, GRAPH, (word, *edge)).name, "wall")
                self.assertEqual(raised(Firm, changed, TOWN, GRAPH, ((word, *edge),)).name, "wall")


class Changed(unittest.TestCase):
    def test_done(self):
        self.assertEqual(changed(TOWN, GRAPH, ()), GRAPH)
        changes = (("take", 0, 2, 3), ("put", 0, 2, 4), ("put", 0, 0, 0), ("take", 0, 0, 1))
        self.assertEqual(changed(TOWN, GRAPH, changes), ((0, 0, 0), (0, 2, 4), *GRAPH[2:]))
        self.assertEqual(changed(TOWN, GRAPH, (("put", 2, 0, 2), ("take", 2, 0, 2))), GRAPH)

    def test_errors(self):
        self.assertEqual(raised(There, changed, TOWN, GRAPH, (("put", 0, 0, 1),)).edge, (0, 0, 1))
        self.assertEqual(raised(There, changed, TOWN, GRAPH, (("put", 0, 2, 3),)).edge, (0, 2, 3))
        self.assertEqual(raised(Held, changed, TOWN, GRAPH, (("put", 0, 2, 4),)).edge, (0, 2, 3))
        self.assertEqual(raised(Gone, changed, TOWN, GRAPH, (("take", 0, 0, 2),)).edge, (0, 0, 2))

    def test_behind_those_ahead(self):
        twice = (("put", 0, 0, 2), ("put", 0, 0, 2))
        self.assertEqual(raised(There, changed, TOWN, GRAPH, twice).edge, (0, 0, 2))
        twice = (("take", 0, 0, 1), ("take", 0, 0, 1))
        self.assertEqual(raised(Gone, changed, TOWN, GRAPH, twice).edge, (0, 0, 1))
        twice = (("put", 1, 2, 4), ("put", 1, 2, 3))
        self.assertEqual(raised(Held, changed, TOWN, GRAPH, twice).edge, (1, 2, 4))
        self.assertEqual(raised(Gone, changed, TOWN, GRAPH, (("take", 0, 0, 0), ("put", 0, 0, 3))).edge, (0, 0, 0))
        self.assertEqual(raised(BadEdge, changed, TOWN, GRAPH, (("put", 0, 0, 3), ("take", 0, 0, 0))).edge, (0, 0, 3))
        self.assertEqual(raised(Firm, changed, TOWN, GRAPH, (("put", 0, 3, 2), ("put", 9, 9, 9))).name, "wall")

    def test_arguments_stay(self):
        changes = (("put", 0, 0, 0),)
        changed(TOWN, GRAPH, changes)
        self.assertEqual(GRAPH, ((0, 0, 1), (0, 2, 3), (0, 3, 2), (1, 4, 1), (1, 6, 0)))
        self.assertEqual(changes, (("put", 0, 0, 0),))


class Difference(unittest.TestCase):
    def test_told(self):
        other = ((0, 0, 0), (0, 2, 4), (0, 3, 2), (1, 4, 1))
        told = (("take", 0, 0, 1), ("take", 0, 2, 3), ("take", 1, 6, 0), ("put", 0, 0, 0), ("put", 0, 2, 4))
        self.assertEqual(difference(GRAPH, other), told)
        self.assertEqual(price_of(TOWN, told), 2 + 1 + 5 + 2 + 1)
        self.assertEqual(apart(TOWN, GRAPH, other), 11)
        self.assertEqual(difference(GRAPH, GRAPH), ())
        self.assertEqual(apart(TOWN, GRAPH, GRAPH), 0)
        self.assertEqual(price_of(TOWN, ()), 0)

    def test_firm(self):
        other = tuple(edge for edge in GRAPH if edge[1] != 3)
        self.assertEqual(difference(GRAPH, other), (("take", 0, 3, 2),))
        self.assertEqual(difference(other, GRAPH), (("put", 0, 3, 2),))
        self.assertEqual(price_of(TOWN, (("put", 0, 3, 2), ("put", 0, 0, 0))), 2)
        self.assertIsNone(apart(TOWN, GRAPH, other))
        self.assertIsNone(apart(TOWN, other, GRAPH))
        self.assertIsNone(apart(TOWN, other[1:], GRAPH))

    def test_leads_over(self):
        chance = by_chance(1)
        for _ in range(60):
            graph = some_graph(TOWN, chance, chance.randrange(12))
            other = some_graph(TOWN, chance, chance.randrange(12))
            firm = tuple(edge for edge in graph if edge[1] == 3)
            other = tuple(sorted([*firm, *[edge for edge in other if edge[1] != 3]]))
            changes = difference(graph, other)
            self.assertEqual(changed(TOWN, graph, changes), other)
            self.assertEqual(apart(TOWN, graph, other), price_of(TOWN, changes))


class Ball(unittest.TestCase):
    def told(self, schema, graph, most):
        """All graphs within a price, by looking at all sets of edges."""
        found = []
        edges = sorted(all_edges(schema))
        for many in range(len(edges) + 1):
            for other in itertools.combinations(edges, many):
                price = apart(schema, graph, other)
                if fits_rules(schema, other) and price is not None and price <= most:
                    found.append((price, other))
        return tuple(sorted(found))

    def test_by_looking_at_all(self):
        small = (
            "schema",
            (("a", 2), ("b", 1), ("c", 0)),
            (("p", 0, 1, 2, "many"), ("q", 0, 0, 3, "single"), ("r", 1, 0, 0, "many"), ("m", 0, 0, 1, "mark"),
             ("s", 1, 2, 1, "single")),
        )
        chance = by_chance(2)
        for many in (0, 3, 5, 8):
            graph = some_graph(small, chance, many)
            for most in (0, 1, 2, 3, 4, 6, 7, 30):
                self.assertEqual(ball(small, graph, most), self.told(small, graph, most))

    def test_zero(self):
        self.assertEqual(ball(TOWN, GRAPH, 0), ((0, GRAPH),))

    def test_single(self):
        schema = ("schema", (("a", 1), ("b", 2)), (("l", 0, 1, 2, "single"),))
        first, second = (0, 0, 1), (0, 0, 2)
        self.assertEqual(ball(schema, (first,), 1), ((0, (first,)),))
        self.assertEqual(ball(schema, (first,), 2), ((0, (first,)), (2, ())))
        self.assertEqual(ball(schema, (first,), 3), ((0, (first,)), (2, ())))
        self.assertEqual(ball(schema, (first,), 4), ((0, (first,)), (2, ()), (4, (second,))))
        self.assertEqual(ball(schema, (), 2), ((0, ()), (2, (first,)), (2, (second,))))

    def test_nearly_two_thousand(self):
        labels = tuple((f"l{n}", 0, 0, 1, "many") for n in range(3))
        schema = ("schema", (("a", 24),), (*labels, ("s", 0, 0, 2, "many"), ("m", 0, 0, 1, "mark")))
        self.assertEqual(len(ball(schema, (), 1)), 1 + 3 * 576 + 24)
        self.assertEqual(raised(TooMany, ball, schema, (), 2).part, "ball")

    def test_exactly_two_thousand(self):
        # 1999 edges that are let, of a price of 1 each.
        kinds = (("a", 18), ("b", 5), ("c", 1))
        labels = (
            ("l0", 0, 0, 1, "many"), ("l1", 0, 0, 1, "many"), ("l2", 0, 0, 1, "many"), ("l3", 0, 0, 1, "many"),
            ("l4", 0, 0, 1, "many"), ("l5", 0, 0, 1, "many"),
            ("l6", 1, 1, 1, "many"), ("l7", 1, 1, 1, "single"), ("l8", 1, 2, 1, "many"),
        )
        schema = ("schema", kinds, labels)
        self.assertEqual(len(all_edges(schema)), 6 * 324 + 25 + 25 + 5)
        self.assertEqual(len(ball(schema, (), 1)), 2000)
        self.assertEqual(len(ball(schema, ((0, 0, 0), (18, 6, 18)), 1)), 2000)
        more = ("schema", kinds, (*labels, ("l9", 2, 2, 1, "mark")))
        self.assertEqual(raised(TooMany, ball, more, (), 1).part, "ball")

    def test_too_many(self):
        self.assertEqual(raised(TooMany, ball, TOWN, GRAPH, 1000000).part, "ball")
        great = ("schema", (("a", 24),), tuple((f"l{n}", 0, 0, 1, "single") for n in range(12)))
        self.assertEqual(raised(TooMany, ball, great, (), 1).part, "ball")

    def test_flat(self):
        for price, graph in ball(FLAT, ((0, 1, 2), (1, 2, 0)), 3):
            self.assertIs(is_graph(FLAT, graph), True)
            self.assertEqual(apart(FLAT, ((0, 1, 2), (1, 2, 0)), graph), price)


if __name__ == "__main__":
    unittest.main()
