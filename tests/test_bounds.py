"""Bounds of plans: [33], [34], [36]."""

import unittest

from edgesaway.bounds import bound_of
from edgesaway.indexes import index_of
from edgesaway.planruns import run_plan
from edgesaway.stats import stats_of
from tests.asking import SMALL, asked, node, some_question, unknown, way
from tests.planned import BACKWARD, FORWARD, bound_told, first_nodes, some_indexes, some_plan
from tests.reckon import step
from tests.support import FLAT, PAIR, TOWN, by_chance, some_graph

ROADS = ("plus", step(0))
LONG = ("then", ROADS, step(1))
# For the labels 0 to 7 the numbers of edges, sources and targets.
STATS = ("stats", ((4, 2, 3), (5, 3, 2), (3, 3, 2), (2, 1, 2), (2, 2, 2), (1, 1, 1), (1, 1, 1), (0, 0, 0)))


def index(expression, start, end, many):
    """An index with so many pairs, which need not be those of a graph that has just these statistics."""
    return ("index", expression, start, end, tuple((0, at) for at in range(many)))


class Bounds(unittest.TestCase):
    def bound(self, body, plan, *indexes, kinds=()):
        question = asked(body, *kinds)
        told = bound_of(TOWN, STATS, indexes, question, plan)
        self.assertEqual(told, bound_told(TOWN, STATS, indexes, body, plan, first_nodes(TOWN, question))[0])
        return told

    def test_forward_and_backward(self):
        for begin, end, sources, targets in (
            (node(0), node(4), 1, 1), (unknown(0), node(4), 3, 1), (node(0), unknown(1), 1, 2), (unknown(0), unknown(1), 3, 2),
        ):
            body = way(LONG, begin, end)
            self.assertEqual(self.bound(body, FORWARD, kinds=(0, 1)), sources * 9)
            self.assertEqual(self.bound(body, BACKWARD, kinds=(0, 1)), targets * 9)

    def test_a_label_without_edges(self):
        self.assertEqual(self.bound(way(step(7), unknown(0), unknown(1)), FORWARD, kinds=(0, 2)), 0)
        self.assertEqual(self.bound(way(("stay",), unknown(0), unknown(0)), FORWARD, kinds=(0,)), 0)
        self.assertEqual(self.bound(way(step(0), unknown(0), unknown(0)), FORWARD, kinds=(2,)), 0)

    def test_index(self):
        body = way(LONG, unknown(0), unknown(1))
        for many, told in ((0, 0), (5, 5), (6, 6), (7, 6), (100, 6)):
            self.assertEqual(self.bound(body, ("index", 0), index(LONG, 0, 1, many), kinds=(0, 1)), told)
        for many, told in ((0, 0), (1, 1), (2, 2), (3, 2)):
            self.assertEqual(self.bound(way(LONG, node(0), node(3)), ("index", 0), index(LONG, 0, 1, many)), told)

    def test_prefix(self):
        body = way(LONG, unknown(0), unknown(1))
        # m is at most 3 * 3, n at most m and 3, and label 1 has 5 edges.
        for many, told in ((0, 0), (1, 1 + 5), (2, 2 + 2 * 5), (3, 3 + 3 * 5), (4, 4 + 3 * 5), (9, 9 + 15), (20, 9 + 15)):
            self.assertEqual(self.bound(body, ("prefix", 0), index(ROADS, 0, 0, many), kinds=(0, 1)), told)
        for many, told in ((2, 2 + 2 * 5), (3, 3 + 3 * 5), (9, 3 + 3 * 5)):
            self.assertEqual(self.bound(way(LONG, node(1), unknown(0)), ("prefix", 0), index(ROADS, 0, 0, many), kinds=(1,)), told)
        # The middles are nodes of the kind that the index ends at.
        expression = ("then", step(1), step(5))
        body = way(expression, unknown(0), unknown(1))
        for many, told in ((1, 1 + 1), (5, 5 + 2), (9, 6 + 2)):
            self.assertEqual(self.bound(body, ("prefix", 0), index(step(1), 0, 1, many), kinds=(0, 1)), told)

    def behind(self, body, *kinds):
        """The bound on the first unknown behind a body, by what a way from it costs behind it."""
        probe = way(step(2), unknown(0), node(3))
        plan = ("parts", (0, 1), (self.plan(body), FORWARD))
        whole = self.bound(("and", (body, probe)), plan, kinds=kinds)
        told = whole - self.bound(body, self.plan(body), kinds=kinds)
        self.assertEqual(told % 3, 0)
        return told // 3

    def plan(self, body):
        if body[0] == "way":
            return FORWARD
        if body[0] == "not":
            return "not", self.plan(body[1])
        return "parts", tuple(range(len(body[1]))), tuple(self.plan(part) for part in body[1])

    def test_lets_in_and_out(self):
        for expression, let_in, let_out in (
            (step(0), 2, 3), (step(0, 1), 3, 2), (LONG, 2, 2), (("either", step(3), step(4)), 3, 3), (("plus", step(6)), 1, 1),
            (("then", step(6, 1), ("maybe", step(0))), 1, 3), (("then", ("maybe", step(3)), step(0, 1)), 3, 2),
            (("maybe", step(6)), 3, 3), (("star", step(6)), 3, 3), (("stay",), 3, 3), (step(7), 0, 0),
        ):
            self.assertEqual(self.behind(way(expression, unknown(0), node(0)), 0), let_in, expression)
            self.assertEqual(self.behind(way(expression, node(0), unknown(0)), 0), let_out, expression)
            self.assertEqual(self.behind(way(expression, node(0), node(1)), 0), 3)
            self.assertEqual(self.behind(way(expression, unknown(1), unknown(0)), 0, 0), let_out)
            # Both ends are the same unknown.
            self.assertEqual(self.behind(way(expression, unknown(0), unknown(0)), 0), min(let_in, let_out))

    def test_sources_and_targets_and_not_edges(self):
        # Label 6 has 3 edges from 3 nodes to one.
        stats = ("stats", (*STATS[1][:6], (3, 3, 1), STATS[1][7]))
        for back, begin, end, left in ((1, unknown(0), node(0), 1), (0, node(0), unknown(0), 1), (0, unknown(0), node(0), 3)):
            body = ("and", (way(step(6, back), begin, end), way(step(0), unknown(0), node(1))))
            plan = ("parts", (0, 1), (FORWARD, FORWARD))
            first = 9 if begin == unknown(0) else 3
            self.assertEqual(bound_of(TOWN, stats, (), asked(body, 0), plan), first + left * 4)

    def test_never_more_than_before(self):
        # Label 0 has 4 edges at most 3 targets, and the kind 1 has 2 nodes.
        self.assertEqual(self.behind(way(step(0), unknown(0), unknown(0)), 1), 2)
        self.assertEqual(self.behind(way(("either", step(0), step(1)), unknown(0), node(0)), 0), 3)

    def test_not(self):
        body = ("not", way(step(6), unknown(0), node(0)))
        self.assertEqual(self.bound(body, ("not", FORWARD), kinds=(0,)), 3)
        self.assertEqual(self.behind(body, 0), 3)
        self.assertEqual(self.behind(("not", body), 0), 3)

    def test_and(self):
        ways = (way(step(6), unknown(0), node(0)), way(step(0), unknown(0), node(0)), way(step(1), unknown(0), node(3)))
        for order, told in (
            ((0, 1, 2), 3 + 4 + 5), ((1, 0, 2), 12 + 2 + 5), ((2, 1, 0), 15 + 12 + 2), ((1, 2, 0), 12 + 10 + 2),
        ):
            self.assertEqual(self.bound(("and", ways), ("parts", order, (FORWARD,) * 3), kinds=(0,)), told, order)
        self.assertEqual(self.behind(("and", ways), 0), 1)
        self.assertEqual(self.behind(("and", ways[1:]), 0), 2)

    def test_or(self):
        ways = (way(step(6), unknown(0), node(0)), way(step(3), unknown(0), node(0)), way(step(4), unknown(0), node(0)))
        for order in ((0, 1, 2), (2, 1, 0)):
            self.assertEqual(self.bound(("or", ways), ("parts", order, (FORWARD,) * 3), kinds=(0,)), 3 + 6 + 6)
        # Behind the parts at most 1, 1 and 2 nodes are left.
        self.assertEqual(self.behind(("or", ways[:1]), 0), 1)
        self.assertEqual(self.behind(("or", ways[:2]), 0), 2)
        self.assertEqual(self.behind(("or", ways[1:]), 0), 3)
        self.assertEqual(self.behind(("or", ways), 0), 3)
        # A part that says nothing of the unknown leaves it as it is.
        self.assertEqual(self.behind(("or", (ways[0], way(step(3), node(0), node(1)))), 0), 3)
        # Each unknown has its own sum.
        two = ("or", (way(step(6), unknown(0), unknown(1)), way(step(3), unknown(1), unknown(0))))
        self.assertEqual(self.behind(two, 0, 0), 1 + 2)
        self.assertEqual(self.behind(("or", (two[1][0], way(step(3), unknown(0), unknown(1)))), 0, 0), 1 + 1)

    def test_within_one_another(self):
        both = ("and", (way(step(3), unknown(0), node(0)), way(step(0), unknown(0), node(1))))
        inner = ("or", (way(step(6), unknown(0), node(0)), both))
        self.assertEqual(self.bound(inner, self.plan(inner), kinds=(0,)), 3 + 6 + 4)
        self.assertEqual(self.behind(inner, 0), 2)
        outer = ("and", (inner, ("not", way(step(4), unknown(0), unknown(0)))))
        self.assertEqual(self.bound(outer, self.plan(outer), kinds=(0,)), 13 + 4)

    def test_by_chance(self):
        chance = by_chance(191)
        just = 0
        for _ in range(200):
            schema = chance.choice((FLAT, PAIR, TOWN, SMALL))
            graph = some_graph(schema, chance, chance.randrange(14))
            question = some_question(schema, chance)
            indexes = some_indexes(schema, graph, question)
            stats = stats_of(schema, graph)
            for _ in range(4):
                plan = some_plan(schema, indexes, question, question[2], chance)
                bound = bound_of(schema, stats, indexes, question, plan)
                told = bound_told(schema, stats, indexes, question[2], plan, first_nodes(schema, question))[0]
                self.assertEqual(bound, told, (question, plan))
                touches = run_plan(schema, graph, indexes, question, plan)[1]
                self.assertLessEqual(touches, bound)
                just += 0 < touches == bound
        self.assertGreater(just, 20)

    def test_of_different_graphs(self):
        # The bound needs statistics and indexes alone, whatever graphs they are of.
        graph, other = ((0, 0, 1), (1, 0, 2), (2, 1, 3)), ((0, 0, 2),)
        made = (index_of(TOWN, other, ROADS, 0, 0),)
        question = asked(way(LONG, unknown(0), node(3)), 0)
        self.assertEqual(bound_of(TOWN, stats_of(TOWN, graph), made, question, ("prefix", 0)), 1 + 1)
        self.assertEqual(bound_of(TOWN, stats_of(TOWN, other), made, question, ("prefix", 0)), 1)


if __name__ == "__main__":
    unittest.main()
