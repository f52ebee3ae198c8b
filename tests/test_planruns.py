"""Runs of plans: [14], [35]."""

import unittest

from edgesaway.indexes import index_of
from edgesaway.planruns import run_plan
from edgesaway.truths import table_of
from tests.asking import SMALL, asked, node, rows_told, some_question, table_told, unknown, way
from tests.planned import BACKWARD, FORWARD, some_indexes, some_plan, touches_told
from tests.reckon import step
from tests.support import FLAT, PAIR, TOWN, by_chance, some_graph

GRAPH = ((0, 0, 1), (0, 1, 3), (0, 2, 4), (1, 0, 2), (1, 2, 3), (2, 1, 4), (2, 4, 2))
ROADS = ("plus", step(0))
LONG = ("then", ROADS, step(1))


class Touches(unittest.TestCase):
    def run_of(self, body, plan, *indexes, kinds=(), graph=GRAPH):
        question = asked(body, *kinds)
        made = tuple(index_of(TOWN, graph, *index) for index in indexes)
        told = run_plan(TOWN, graph, made, question, plan)
        self.assertIsInstance(told, tuple)
        self.assertEqual(told[0], table_told(TOWN, graph, question))
        return told

    def test_forward(self):
        # From 0: the roads to 1 and from there to 2, and the edge from 2 to 4.
        self.assertEqual(self.run_of(way(LONG, node(0), node(4)), FORWARD), (((),), 3))
        # From 2 no word begins, from 1 the second road and the edge behind it.
        self.assertEqual(self.run_of(way(LONG, node(2), node(4)), FORWARD), ((), 0))
        self.assertEqual(self.run_of(way(LONG, unknown(0), node(4)), FORWARD, kinds=(0,)), (((0,), (1,)), 5))
        # Each source counts once, for however many targets it is asked.
        told = self.run_of(way(LONG, unknown(0), unknown(1)), FORWARD, kinds=(0, 1))
        self.assertEqual(told, (((0, 4), (1, 4)), 5))
        self.assertEqual(self.run_of(way(LONG, node(0), unknown(0)), FORWARD, kinds=(1,)), (((4,),), 3))

    def test_backward(self):
        # From 4 the edge to 2, then the roads to 1 and 0.
        self.assertEqual(self.run_of(way(LONG, node(0), node(4)), BACKWARD), (((),), 3))
        # From 3 the edge to 0, at which no road ends.
        self.assertEqual(self.run_of(way(LONG, node(0), node(3)), BACKWARD), ((), 1))
        self.assertEqual(self.run_of(way(LONG, node(0), unknown(0)), BACKWARD, kinds=(1,)), (((4,),), 4))
        told = self.run_of(way(LONG, unknown(0), unknown(1)), BACKWARD, kinds=(0, 1))
        self.assertEqual(told, (((0, 4), (1, 4)), 4))

    def test_letters_back(self):
        body = way(("then", step(1, 1), ("star", step(0, 1))), node(4), unknown(0))
        self.assertEqual(self.run_of(body, FORWARD, kinds=(0,)), (((0,), (1,), (2,)), 3))
        # From 0 both roads and the edge at 2, that at 0, too; from 1 one road and the edge at 2; from 2 its edge.
        self.assertEqual(self.run_of(body, BACKWARD, kinds=(0,)), (((0,), (1,), (2,)), 4 + 2 + 1))

    def test_index(self):
        indexes = ((ROADS, 0, 0), (LONG, 0, 1))
        self.assertEqual(self.run_of(way(ROADS, node(0), node(2)), ("index", 0), *indexes), (((),), 2))
        self.assertEqual(self.run_of(way(ROADS, node(2), node(0)), ("index", 0), *indexes), ((), 0))
        self.assertEqual(self.run_of(way(ROADS, unknown(0), node(2)), ("index", 0), *indexes, kinds=(0,)), (((0,), (1,)), 3))
        told = self.run_of(way(ROADS, unknown(1), unknown(0)), ("index", 0), *indexes, kinds=(0, 0))
        self.assertEqual(told, (((1, 0), (2, 0), (2, 1)), 3))
        self.assertEqual(self.run_of(way(LONG, node(1), unknown(0)), ("index", 1), *indexes, kinds=(1,)), (((4,),), 1))

    def test_prefix(self):
        index = (ROADS, 0, 0)
        # Two pairs from 0, to the middles 1 and 2; from 1 no edge of label 1 leads, from 2 one does.
        self.assertEqual(self.run_of(way(LONG, node(0), node(4)), ("prefix", 0), index), (((),), 3))
        self.assertEqual(self.run_of(way(LONG, node(2), node(4)), ("prefix", 0), index), ((), 0))
        # Three pairs; the middle 2 of two sources is searched from once.
        told = self.run_of(way(LONG, unknown(0), node(4)), ("prefix", 0), index, kinds=(0,))
        self.assertEqual(told, (((0,), (1,)), 4))
        # The empty word stands among the pairs.
        stars = ("star", step(0))
        body = way(("then", stars, step(1)), unknown(0), unknown(1))
        told = self.run_of(body, ("prefix", 0), (stars, 0, 0), kinds=(0, 1))
        self.assertEqual(told, (((0, 3), (0, 4), (1, 4), (2, 4)), 6 + 2))

    def test_searches_go_on(self):
        # No word can be completed behind label 1, and its edges are touched nevertheless.
        body = way(("then", ROADS, ("then", step(1), step(5))), node(0), node(3))
        self.assertEqual(self.run_of(body, FORWARD), ((), 3))

    def test_no_row(self):
        for plan in (FORWARD, BACKWARD, ("index", 0), ("prefix", 0)):
            self.assertEqual(self.run_of(way(LONG, node(0), node(4)), plan, (ROADS, 0, 0), kinds=(2,)), ((), 0))
        body = ("and", (way(LONG, node(0), node(4)), ("not", way(step(2), node(0), node(4)))))
        plan = ("parts", (0, 1), (FORWARD, ("not", FORWARD)))
        self.assertEqual(self.run_of(body, plan, kinds=(2, 0)), ((), 0))

    def test_and(self):
        roads, marks = way(ROADS, unknown(0), node(2)), way(step(4), unknown(0), unknown(0))
        body = ("and", (roads, marks))
        # Forward from 0, 1, 2 the roads touch 2 + 1 + 0 edges, the mark 1.
        self.assertEqual(self.run_of(body, ("parts", (0, 1), (FORWARD, FORWARD)), kinds=(0,)), ((), 3))
        # The mark holds for 2 alone, from which no road leads.
        self.assertEqual(self.run_of(body, ("parts", (1, 0), (FORWARD, FORWARD)), kinds=(0,)), ((), 1))

    def test_or(self):
        roads, marks = way(ROADS, unknown(0), node(2)), way(step(4), unknown(0), unknown(0))
        body = ("or", (roads, marks))
        # Behind the roads, which hold for 0 and 1, only 2 is asked for; behind the mark 0 and 1 are.
        self.assertEqual(self.run_of(body, ("parts", (0, 1), (FORWARD, FORWARD)), kinds=(0,)), (((0,), (1,), (2,)), 4))
        self.assertEqual(self.run_of(body, ("parts", (1, 0), (FORWARD, FORWARD)), kinds=(0,)), (((0,), (1,), (2,)), 4))
        # Nothing is left to ask for behind a part that holds for all rows.
        body = ("or", (way(("star", step(6)), unknown(0), unknown(0)), roads))
        self.assertEqual(self.run_of(body, ("parts", (0, 1), (FORWARD, FORWARD)), kinds=(0,))[1], 0)
        self.assertEqual(self.run_of(body, ("parts", (1, 0), (FORWARD, FORWARD)), kinds=(0,))[1], 3)

    def test_not(self):
        body = ("not", way(ROADS, unknown(0), node(2)))
        self.assertEqual(self.run_of(body, ("not", FORWARD), kinds=(0,)), (((2,),), 3))
        # A way behind a part that holds for nothing is asked for no row.
        body = ("and", (("not", way(("star", step(0)), unknown(0), node(2))), way(step(1), unknown(0), node(4))))
        self.assertEqual(self.run_of(body, ("parts", (0, 1), (("not", FORWARD), FORWARD)), kinds=(0,)), ((), 3))
        self.assertEqual(self.run_of(body, ("parts", (1, 0), (("not", FORWARD), FORWARD)), kinds=(0,)), ((), 2))

    def test_parts_in_three_orders(self):
        ways = (way(step(1), unknown(0), node(4)), way(step(2), unknown(0), node(4)), way(ROADS, unknown(0), node(2)))
        # They hold for 2, for 0, and for 0 and 1; alone they touch 2, 2 and 3 edges.
        for order, touches in (((0, 1, 2), 2), ((1, 0, 2), 3), ((2, 0, 1), 4), ((2, 1, 0), 3 + 2 + 1), ((1, 2, 0), 2 + 2 + 1)):
            told = self.run_of(("and", ways), ("parts", order, (FORWARD,) * 3), kinds=(0,))
            self.assertEqual(told, ((), touches), order)
        for order, touches in (((0, 1, 2), 2 + 2 + 1), ((2, 1, 0), 3 + 0 + 1), ((1, 2, 0), 2 + 1 + 1)):
            told = self.run_of(("or", ways), ("parts", order, (FORWARD,) * 3), kinds=(0,))
            self.assertEqual(told, (((0,), (1,), (2,)), touches), order)

    def test_by_chance(self):
        chance = by_chance(181)
        kinds = set()
        for _ in range(200):
            schema = chance.choice((FLAT, PAIR, TOWN, SMALL))
            graph = some_graph(schema, chance, chance.randrange(14))
            question = some_question(schema, chance)
            indexes = some_indexes(schema, graph, question)
            table = table_of(schema, graph, question)
            for _ in range(4):
                plan = some_plan(schema, indexes, question, question[2], chance)
                touches = touches_told(schema, graph, indexes, question[2], plan, rows_told(schema, question))
                self.assertEqual(run_plan(schema, graph, indexes, question, plan), (table, touches), (question, plan))
                kinds.add((plan[0], touches > 0))
        self.assertEqual(len(kinds), 12)


if __name__ == "__main__":
    unittest.main()
