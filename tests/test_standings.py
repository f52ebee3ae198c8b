"""Standings of questions: [31]."""

import unittest

from edgesaway.answers import distance_of
from edgesaway.balls import ball
from edgesaway.standings import nearest, standing_of, weakest
from edgesaway.truths import table_of
from tests.asking import SMALL, asked, node, rows_told, some_question, table_told, unknown, way
from tests.reckon import step
from tests.support import FLAT, PAIR, TOWN, by_chance, some_graph
from tests.test_answers import PRICED, F, P, Q, R

GRAPH = ((0, 0, 1), (0, 1, 1), (0, 3, 1))


class Standings(unittest.TestCase):
    def test_no_unknown(self):
        for body, told in ((P, 1), (Q, 2), (R, 3), (F, None), (("or", (P, Q)), 3), (("not", R), 3)):
            self.assertEqual(standing_of(PRICED, GRAPH, asked(body)), told)

    def test_no_row(self):
        self.assertIsNone(standing_of(TOWN, (), asked(way(step(7), unknown(0), unknown(1)), 0, 2)))

    def test_all_none(self):
        self.assertIsNone(standing_of(PRICED, GRAPH, asked(way(step(3), unknown(0), unknown(1)), 0, 0)))
        self.assertIsNone(standing_of(TOWN, (), asked(way(("star", step(0)), unknown(0), node(3)), 0)))

    def test_the_least_of_several(self):
        question = asked(way(("star", step(0)), unknown(0), unknown(1)), 0, 0)
        self.assertEqual(standing_of(TOWN, (), question), 2)
        graph = ((0, 0, 1), (0, 1, 3), (0, 2, 4), (2, 1, 3))
        either = asked(way(("either", step(1), step(2)), unknown(0), node(3)), 0)
        # Row 0 is 3 away, row 1 only 1, by the owner that node 1 has none of, and row 2 is 3 away.
        self.assertEqual([distance_of(TOWN, graph, either, (n,)) for n in range(3)], [3, 1, 3])
        self.assertEqual(standing_of(TOWN, graph, either), 1)

    def test_the_same_table_within(self):
        chance = by_chance(131)
        several = 0
        for _ in range(60):
            graph = some_graph(SMALL, chance, chance.randrange(8))
            question = some_question(SMALL, chance)
            table = table_told(SMALL, graph, question)
            standing = standing_of(SMALL, graph, question)
            others = [price for price, other in ball(SMALL, graph, 3) if table_told(SMALL, other, question) != table]
            self.assertEqual(min(others, default=None), None if standing is None or standing > 3 else standing)
            several += bool(others)
        self.assertGreater(several, 10)


class FirstToTurn(unittest.TestCase):
    # The rows 0 and 2 hold for 3, row 1 for ever; the other way round for what does not hold.
    GRAPH = ((0, 1, 3), (1, 3, 0), (2, 1, 3))
    BODY = ("or", (way(step(1), unknown(0), node(3)), way(step(3), unknown(0), node(0))))

    def test_table_and_others(self):
        question = asked(self.BODY, 0)
        self.assertEqual(weakest(TOWN, self.GRAPH, question, 9), (((0,), 3), ((2,), 3), ((1,), None)))
        self.assertEqual(nearest(TOWN, self.GRAPH, question, 9), ())
        question = asked(("not", self.BODY), 0)
        self.assertEqual(weakest(TOWN, self.GRAPH, question, 9), ())
        self.assertEqual(nearest(TOWN, self.GRAPH, question, 9), (((0,), 3), ((2,), 3), ((1,), None)))

    def test_price_ahead_of_row(self):
        question = asked(way(("either", step(1), step(2)), unknown(0), node(3)), 0)
        graph = ((0, 1, 3), (0, 2, 3), (1, 1, 3), (2, 2, 3))
        self.assertEqual(weakest(TOWN, graph, question, 9), (((2,), 1), ((1,), 3), ((0,), 4)))
        graph = ((0, 2, 4), (1, 2, 4))
        self.assertEqual(nearest(TOWN, graph, question, 9), (((2,), 1), ((0,), 2), ((1,), 2)))
        self.assertEqual(weakest(TOWN, graph, question, 9), ())

    def test_numbers(self):
        question = asked(self.BODY, 0)
        told = weakest(TOWN, self.GRAPH, question, 9)
        for many in (0, 1, 2, 3, 4, 100):
            self.assertEqual(weakest(TOWN, self.GRAPH, question, many), told[:many])
            self.assertEqual(nearest(TOWN, self.GRAPH, asked(("not", self.BODY), 0), many), told[:many])

    def test_no_unknown_and_no_row(self):
        self.assertEqual(weakest(PRICED, GRAPH, asked(P), 2), (((), 1),))
        self.assertEqual(nearest(PRICED, GRAPH, asked(P), 2), ())
        self.assertEqual(nearest(PRICED, GRAPH, asked(R), 2), (((), 3),))
        question = asked(way(step(7), unknown(0), unknown(1)), 0, 2)
        self.assertEqual((weakest(TOWN, (), question, 5), nearest(TOWN, (), question, 5)), ((), ()))

    def test_by_chance(self):
        chance = by_chance(132)
        for _ in range(80):
            schema = chance.choice((FLAT, PAIR, TOWN))
            graph = some_graph(schema, chance, chance.randrange(12))
            question = some_question(schema, chance)
            table = table_of(schema, graph, question)
            pairs = [(row, distance_of(schema, graph, question, row)) for row in rows_told(schema, question)]
            pairs = sorted(pairs, key=lambda pair: (pair[1] is None, pair[1] or 0, pair[0]))
            many = chance.randrange(6)
            held = [pair for pair in pairs if pair[0] in table]
            self.assertEqual(weakest(schema, graph, question, many), tuple(held[:many]))
            not_held = [pair for pair in pairs if pair[0] not in table]
            self.assertEqual(nearest(schema, graph, question, many), tuple(not_held[:many]))
            self.assertEqual(standing_of(schema, graph, question), pairs[0][1] if pairs else None)


if __name__ == "__main__":
    unittest.main()
