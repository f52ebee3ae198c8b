"""Truths of rows and tables: [10], [25], [26]."""

import itertools
import unittest

from edgesaway.truths import combined, table_of, truth_of
from tests.asking import asked, node, rows_told, some_question, table_told, truth_told, unknown, way, ways_told
from tests.reckon import step
from tests.support import FLAT, PAIR, TOWN, by_chance, some_graph

GRAPH = ((0, 0, 1), (1, 0, 2), (2, 1, 4), (1, 4, 1))
ROADS = ("star", step(0))


class Truths(unittest.TestCase):
    def test_no_unknown(self):
        for body, told in (
            (way(ROADS, node(0), node(2)), "yes"), (way(ROADS, node(2), node(0)), "no"),
            (way(ROADS, node(2), node(2)), "yes"), (way(ROADS, node(0), node(4)), "no"),
            (("not", way(ROADS, node(0), node(2))), "no"), (("not", ("not", way(ROADS, node(0), node(2)))), "yes"),
        ):
            self.assertEqual(truth_of(TOWN, GRAPH, asked(body), ()), told)
            self.assertEqual(table_of(TOWN, GRAPH, asked(body)), ((),) if told == "yes" else ())

    def test_one_unknown(self):
        question = asked(way(("then", ("plus", step(0)), step(1)), unknown(0), node(4)), 0)
        self.assertEqual(table_of(TOWN, GRAPH, question), ((0,), (1,)))
        self.assertEqual([truth_of(TOWN, GRAPH, question, (n,)) for n in range(3)], ["yes", "yes", "no"])
        question = asked(("not", question[2]), 0)
        self.assertEqual(table_of(TOWN, GRAPH, question), ((2,),))

    def test_two_unknowns(self):
        question = asked(way(ROADS, unknown(0), unknown(1)), 0, 0)
        self.assertEqual(table_of(TOWN, GRAPH, question), ((0, 0), (0, 1), (0, 2), (1, 1), (1, 2), (2, 2)))
        question = asked(way(("plus", step(0)), unknown(1), unknown(0)), 0, 0)
        self.assertEqual(table_of(TOWN, GRAPH, question), ((1, 0), (2, 0), (2, 1)))
        question = asked(way(("then", ROADS, step(1)), unknown(1), unknown(0)), 1, 0)
        self.assertEqual(table_of(TOWN, GRAPH, question), ((4, 0), (4, 1), (4, 2)))

    def test_one_unknown_at_both_ends(self):
        question = asked(way(("plus", step(0)), unknown(0), unknown(0)), 0)
        self.assertEqual(table_of(TOWN, (*GRAPH, (2, 0, 1)), question), ((1,), (2,)))
        self.assertEqual(table_of(TOWN, GRAPH, asked(way(step(4), unknown(0), unknown(0)), 0)), ((1,),))

    def test_a_kind_without_nodes(self):
        body = ("not", way(step(7), unknown(0), unknown(1)))
        self.assertEqual(table_of(TOWN, GRAPH, asked(body, 0, 2)), ())
        self.assertEqual(table_of(TOWN, GRAPH, asked(body, 2, 0)), ())
        self.assertEqual(table_of(TOWN, GRAPH, asked(way(("stay",), unknown(0), unknown(0)), 2)), ())

    def test_kinds_that_no_word_joins(self):
        question = asked(("not", way(ROADS, unknown(0), node(3))), 1)
        self.assertEqual(table_of(TOWN, GRAPH, question), ((4,),))

    def test_by_chance(self):
        chance = by_chance(91)
        sizes = set()
        for _ in range(200):
            schema = chance.choice((FLAT, PAIR, TOWN))
            graph = some_graph(schema, chance, chance.randrange(12))
            question = some_question(schema, chance)
            table = table_told(schema, graph, question)
            sizes.add((len(question[1]), len(table) > 0))
            self.assertEqual(table_of(schema, graph, question), table)
            for row in rows_told(schema, question):
                self.assertEqual(truth_of(schema, graph, question, row), truth_told(schema, graph, question, row))
        self.assertEqual(len(sizes), 6)


class Combined(unittest.TestCase):
    WAYS = tuple(way(step(label), node(0), node(0)) for label in range(8))

    def told(self, body, truths):
        if body[0] == "way":
            return truths.pop(0)
        parts = [self.told(part, truths) for part in (body[1:] if body[0] == "not" else body[1])]
        if body[0] == "not":
            return "no" if parts[0] == "yes" else "yes"
        return "yes" if (all if body[0] == "and" else any)(part == "yes" for part in parts) else "no"

    def check(self, body):
        many = len(ways_told(body))
        for truths in itertools.product(("yes", "no"), repeat=many):
            self.assertEqual(combined(asked(body), truths), self.told(body, list(truths)), (body, truths))

    def test_one_part(self):
        for word in ("and", "or"):
            self.check((word, self.WAYS[:1]))
            self.check(("not", (word, ((word, self.WAYS[:1]),))))

    def test_eight_parts(self):
        self.check(("and", self.WAYS))
        self.check(("or", self.WAYS))

    def test_not(self):
        self.check(self.WAYS[0])
        self.check(("not", self.WAYS[0]))
        self.check(("not", ("not", self.WAYS[0])))
        self.check(("not", ("not", ("not", ("and", self.WAYS[:2])))))

    def test_within_one_another(self):
        ways = self.WAYS
        self.check(("and", (("or", (ways[0], ("not", ways[1]))), ways[2], ("not", ("or", ways[3:5])))))
        self.check(("or", (ways[0], ("and", (ways[1], ("or", (ways[2], ("and", ways[3:6]))))), ("not", ways[6]))))
        deep = ways[0]
        for at in range(1, 7):
            deep = ("or" if at % 2 else "and", (ways[at], ("not", deep)))
        self.check(deep)

    def test_order_of_the_truths(self):
        body = ("and", (self.WAYS[0], ("not", self.WAYS[1]), self.WAYS[2]))
        self.assertEqual(combined(asked(body), ("yes", "no", "yes")), "yes")
        self.assertEqual(combined(asked(body), ("no", "yes", "yes")), "no")


if __name__ == "__main__":
    unittest.main()
