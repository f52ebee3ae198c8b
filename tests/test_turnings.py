"""Turnings of rows: [22], [29]."""

import itertools
import unittest

from edgesaway.answers import distance_of
from edgesaway.balls import ball
from edgesaway.graphs import changed, difference
from edgesaway.truths import truth_of
from edgesaway.turnings import judge_turning, turning_of
from tests.asking import SMALL, asked, node, rows_told, some_question, truth_told, unknown, way
from tests.reckon import price_at, step
from tests.support import FLAT, PAIR, TOWN, all_edges, by_chance, some_graph
from tests.test_answers import PRICED, F, P, Q, R


def turning_right(schema, graph, question, row, changes):
    """Whether changes are a right turning [29], word by word."""
    price = distance_of(schema, graph, question, row)
    edges = set(graph)
    for word, *edge in changes:
        edge = tuple(edge)
        if edge not in all_edges(schema) or price_at(schema, edge[1]) == 0 or (edge in edges) == (word == "put"):
            return False
        held = schema[2][edge[1]][4] == "single" and any(other[:2] == edge[:2] for other in edges)
        if word == "put" and held:
            return False
        edges ^= {edge}
    if sum(price_at(schema, change[2]) for change in changes) != price:
        return False
    behind = tuple(sorted(edges))
    return truth_told(schema, behind, question, row) != truth_told(schema, graph, question, row)


class Told(unittest.TestCase):
    GRAPH = ((0, 0, 1), (0, 1, 1), (0, 3, 1))

    def turning(self, body, graph=GRAPH):
        changes = turning_of(PRICED, graph, asked(body), ())
        self.assertIs(judge_turning(PRICED, graph, asked(body), (), changes or ()), changes is not None)
        return changes

    def test_one_way(self):
        self.assertEqual(self.turning(P), (("take", 0, 0, 1),))
        self.assertEqual(self.turning(R), (("put", 0, 2, 1),))
        self.assertEqual(self.turning(("not", R)), (("put", 0, 2, 1),))
        self.assertEqual(self.turning(("and", (R, P, Q))), (("put", 0, 2, 1),))

    def test_the_least_part(self):
        self.assertEqual(self.turning(("and", (Q, P))), (("take", 0, 0, 1),))
        self.assertEqual(self.turning(("or", (R, ("not", Q)))), (("take", 0, 1, 1),))

    def test_several_ways_together(self):
        self.assertEqual(sorted(self.turning(("or", (P, Q)))), [("take", 0, 0, 1), ("take", 0, 1, 1)])
        told = [("put", 0, 2, 1), ("take", 0, 0, 1)]
        self.assertEqual(sorted(self.turning(("and", (R, ("not", P))))), told)
        self.assertEqual(len(self.turning(("and", (R, P, Q)), ())), 3)

    def test_none(self):
        for body in (F, ("not", F), ("or", (P, F)), ("and", (("not", F), P))):
            self.assertIsNone(self.turning(body))

    def test_singles_are_held(self):
        question = asked(way(step(6), node(0), node(2)))
        graph = ((0, 6, 1),)
        self.assertEqual(turning_of(TOWN, graph, question, ()), (("take", 0, 6, 1), ("put", 0, 6, 2)))
        self.assertIs(judge_turning(TOWN, graph, question, (), (("put", 0, 6, 2), ("take", 0, 6, 1))), False)

    def test_rows(self):
        question = asked(way(("plus", step(0)), unknown(0), unknown(1)), 0, 0)
        self.assertEqual(turning_of(PRICED, ((0, 0, 1),), question, (1, 0)), (("put", 1, 0, 0),))
        self.assertEqual(turning_of(PRICED, ((0, 0, 1),), question, (0, 1)), (("take", 0, 0, 1),))

    def test_by_chance(self):
        chance = by_chance(111)
        sizes = set()
        for _ in range(250):
            schema = chance.choice((FLAT, PAIR, TOWN, SMALL))
            graph = some_graph(schema, chance, chance.randrange(10))
            question = some_question(schema, chance)
            for row in rows_told(schema, question)[:4]:
                changes = turning_of(schema, graph, question, row)
                price = distance_of(schema, graph, question, row)
                self.assertEqual(changes is None, price is None)
                if changes is not None:
                    sizes.add(len(changes))
                    self.assertTrue(turning_right(schema, graph, question, row, changes), (graph, question, changes))
                    self.assertIs(judge_turning(schema, graph, question, row, changes), True)
                    behind = changed(schema, graph, changes)
                    self.assertNotEqual(truth_of(schema, graph, question, row), truth_of(schema, behind, question, row))
        self.assertLessEqual({1, 2}, sizes)
        self.assertGreater(max(sizes), 2)


class Judged(unittest.TestCase):
    GRAPH = ((0, 0, 1), (0, 1, 1), (0, 3, 1))
    TOGETHER = (("take", 0, 0, 1), ("take", 0, 1, 1))

    def judge(self, body, *changes, graph=GRAPH):
        told = judge_turning(PRICED, graph, asked(body), (), changes)
        self.assertIs(told, turning_right(PRICED, graph, asked(body), (), changes))
        return told

    def test_several_orders(self):
        body = ("or", (P, Q))
        self.assertIs(self.judge(body, *self.TOGETHER), True)
        self.assertIs(self.judge(body, *self.TOGETHER[::-1]), True)
        self.assertIs(self.judge(body, self.TOGETHER[0]), False)
        self.assertIs(self.judge(body, self.TOGETHER[1]), False)
        self.assertIs(self.judge(body, *self.TOGETHER, ("put", 0, 2, 1)), False)

    def test_a_distance_of_none(self):
        self.assertIs(self.judge(F), False)
        self.assertIs(self.judge(F, ("take", 0, 3, 1)), False)
        self.assertIs(self.judge(("or", (P, F)), self.TOGETHER[0]), False)

    def test_nothing_done(self):
        self.assertIs(self.judge(P), False)

    def test_not_all_done(self):
        self.assertIs(self.judge(P, ("put", 0, 0, 1)), False)
        self.assertIs(self.judge(("or", (P, Q)), self.TOGETHER[1], ("take", 1, 0, 1)), False)
        self.assertIs(self.judge(P, ("take", 1, 0, 0)), False)
        self.assertIs(self.judge(("and", (R, ("not", P))), ("put", 0, 2, 1), ("put", 0, 0, 1)), False)
        single = asked(way(step(2), node(0), node(4)))
        self.assertIs(judge_turning(TOWN, ((0, 2, 3),), single, (), (("put", 0, 2, 4),)), False)
        self.assertIs(judge_turning(TOWN, ((0, 2, 3),), single, (), (("put", 0, 2, 4), ("take", 0, 2, 3))), False)
        self.assertIs(judge_turning(TOWN, ((0, 2, 3),), single, (), (("take", 0, 2, 3), ("put", 0, 2, 4))), True)

    def test_a_firm_label(self):
        self.assertIs(self.judge(P, ("take", 0, 3, 1), *self.TOGETHER[:1]), False)
        self.assertIs(self.judge(P, self.TOGETHER[0], ("put", 1, 3, 1)), False)
        self.assertIs(self.judge(("and", (P, F)), ("take", 0, 3, 1)), False)

    def test_edges_that_are_not_let(self):
        for edge in ((0, 4, 1), (0, -1, 1), (2, 0, 1), (-1, 0, 1), (0, 0, 2), (0, 0, -1000000), (1000000, 1000000, 0)):
            for word in ("put", "take"):
                self.assertIs(self.judge(P, (word, *edge)), False)
                self.assertIs(self.judge(("or", (P, Q)), self.TOGETHER[0], (word, *edge)), False)
        mark = asked(way(step(4), node(0), node(0)))
        self.assertIs(judge_turning(TOWN, (), mark, (), (("put", 0, 4, 1),)), False)
        self.assertIs(judge_turning(TOWN, (), mark, (), (("put", 0, 4, 0),)), True)

    def test_another_price(self):
        # R for 3 turns the whole as well as P for 1 does.
        body = ("or", (P, R))
        self.assertIs(self.judge(body, ("put", 0, 2, 1), graph=()), False)
        self.assertIs(self.judge(body, ("put", 0, 0, 1), graph=()), True)
        self.assertIs(self.judge(body, ("put", 0, 0, 1), ("put", 0, 1, 1), graph=()), False)
        self.assertIs(self.judge(("not", R), ("put", 0, 0, 0), ("put", 0, 1, 0)), False)

    def test_the_same_truth(self):
        self.assertIs(self.judge(P, ("put", 0, 0, 0)), False)
        self.assertIs(self.judge(P, ("put", 1, 0, 1)), False)
        self.assertIs(self.judge(R, ("take", 0, 0, 1), ("take", 0, 1, 1)), False)

    def test_there_and_back(self):
        self.assertIs(self.judge(R, ("take", 0, 0, 1), ("put", 0, 0, 1), ("put", 1, 0, 0)), False)
        self.assertIs(self.judge(Q, ("put", 1, 0, 0), ("take", 1, 0, 0)), False)

    def test_all_differences(self):
        chance = by_chance(112)
        taken = 0
        for _ in range(400):
            graph = some_graph(SMALL, chance, chance.randrange(6))
            question = some_question(SMALL, chance)
            rows = rows_told(SMALL, question)
            row = chance.choice(rows) if rows else None
            if not rows or distance_of(SMALL, graph, question, row) not in (2, 3):
                continue
            for _, other in ball(SMALL, graph, 3):
                changes = difference(graph, other)
                orders = itertools.permutations(changes) if 1 < len(changes) < 3 else [changes]
                for order in orders:
                    told = turning_right(SMALL, graph, question, row, order)
                    taken += told
                    self.assertIs(judge_turning(SMALL, graph, question, row, order), told)
        self.assertGreater(taken, 20)


if __name__ == "__main__":
    unittest.main()
