"""Planning: [37]."""

import itertools
import unittest

from edgesaway.bounds import bound_of
from edgesaway.indexes import index_of
from edgesaway.planning import plan_of
from edgesaway.planruns import run_plan
from edgesaway.plans import judge_plan
from edgesaway.stats import stats_of
from edgesaway.truths import table_of
from tests.asking import asked, node, some_question, unknown, way, ways_told
from tests.planned import BACKWARD, FORWARD, bound_told, first_nodes, plans_of_way, some_indexes
from tests.reckon import step
from tests.support import FLAT, PAIR, TOWN, by_chance, some_graph

# One kind of 20 nodes and twelve labels that lead from it to itself.
WIDE = ("schema", (("n", 20),), tuple((f"l{at}", 0, 0, 1, "many") for at in range(12)))


def wide_stats(*edges):
    """Statistics of labels that have so many edges, all with one source and different targets."""
    rows = [(many, min(many, 1), min(many, 20)) for many in edges]
    return "stats", tuple(rows + [(0, 0, 0)] * (12 - len(rows)))


def all_plans(schema, indexes, question, body):
    """Every plan that fits a body [34]."""
    if body[0] == "way":
        return plans_of_way(schema, indexes, question, body)
    if body[0] == "not":
        return [("not", plan) for plan in all_plans(schema, indexes, question, body[1])]
    choices = [all_plans(schema, indexes, question, part) for part in body[1]]
    orders = list(itertools.permutations(range(len(body[1]))))
    return [("parts", order, plans) for order in orders for plans in itertools.product(*choices)]


def many_plans(schema, indexes, question, body):
    """How many plans fit a body."""
    if body[0] == "way":
        return len(plans_of_way(schema, indexes, question, body))
    parts = body[1:] if body[0] == "not" else body[1]
    total = 1
    for at, part in enumerate(parts):
        total *= many_plans(schema, indexes, question, part) * (at + 1)
    return total


class Plans(unittest.TestCase):
    def check_least(self, schema, stats, indexes, question, bound):
        plan = plan_of(schema, stats, indexes, question)
        self.assertTrue(judge_plan(schema, indexes, question, plan))
        self.assertEqual(bound_of(schema, stats, indexes, question, plan), bound)
        return plan

    def test_a_way(self):
        stats = wide_stats(5)
        question = asked(way(step(0), node(3), unknown(0)), 0)
        self.assertEqual(self.check_least(WIDE, stats, (), question, 5), FORWARD)
        question = asked(way(step(0), unknown(0), node(3)), 0)
        self.assertEqual(self.check_least(WIDE, stats, (), question, 5), BACKWARD)

    def test_no_unknown_and_the_same_twice(self):
        stats = wide_stats(5, 3)
        self.assertIn(self.check_least(WIDE, stats, (), asked(way(step(0), node(3), node(4))), 5), (FORWARD, BACKWARD))
        same = way(step(0), unknown(0), unknown(0))
        self.check_least(WIDE, stats, (), asked(same, 0), 100)
        # One source is let in, so the way behind it is asked for one node alone.
        question = asked(("and", (way(step(1), unknown(0), unknown(0)), same)), 0)
        plan = self.check_least(WIDE, stats, (), question, 20 * 3 + 1 * 5)
        self.assertEqual(plan[1], (0, 1))

    def test_the_order_of_an_and(self):
        stats = wide_stats(8, 1, 4)
        parts = tuple(way(step(label), unknown(0), unknown(1)) for label in (0, 1, 2))
        plan = self.check_least(WIDE, stats, (), asked(("and", parts), 0, 0), 20 + 4 + 8)
        self.assertEqual(plan[1][0], 1)
        # An "or" adds up its parts, whatever the order.
        plan = self.check_least(WIDE, stats, (), asked(("or", parts), 0, 0), 20 * 13)
        self.assertEqual(sorted(plan[1]), [0, 1, 2])

    def test_a_dear_part_first(self):
        """The part of the least bound is not the best one to begin with: only the other one lowers the bound."""
        stats = ("stats", ((2, 2, 2), (3, 3, 3), *[(0, 0, 0)] * 10))
        cheap = way(("star", step(0)), unknown(0), unknown(1))
        dear = way(step(1), unknown(0), unknown(1))
        plan = self.check_least(WIDE, stats, (), asked(("and", (cheap, dear)), 0, 0), 20 * 3 + 3 * 2)
        self.assertEqual(plan[1], (1, 0))

    def test_bodies_within_one_another(self):
        stats = ("stats", ((9, 9, 9), (2, 2, 2), (3, 3, 3), (4, 4, 4), *[(0, 0, 0)] * 8))
        first, *some = [way(step(label), unknown(0), node(5)) for label in range(4)]
        # Behind the "or" at most 2 + 3 nodes are left; behind the "not" as many as ahead of it.
        body = ("and", (first, ("not", some[2]), ("or", tuple(some[:2]))))
        question = asked(body, 0)
        self.check_least(WIDE, stats, (), question, min(
            bound_told(WIDE, stats, (), body, plan, [20])[0] for plan in all_plans(WIDE, (), question, body)
        ))
        body = ("not", ("not", ("or", (("and", (some[0], first)),))))
        self.check_least(WIDE, stats, (), asked(body, 0), 2 + 9)

    def test_indexes(self):
        graph = ((0, 0, 1), (0, 0, 2), (1, 0, 2), (2, 1, 3))
        stats = stats_of(TOWN, graph)
        star = ("star", step(0))
        right = index_of(TOWN, graph, star, 0, 0)
        other = index_of(TOWN, graph, star, 0, 1)
        question = asked(way(star, unknown(0), unknown(1)), 0, 0)
        self.assertEqual(self.check_least(TOWN, stats, (other, right), question, 6), ("index", 1))
        self.assertIn(self.check_least(TOWN, stats, (other,), question, 9), (FORWARD, BACKWARD))
        # A prefix: 6 pairs and 3 middles with one edge each, against 2 targets with 4 edges each.
        question = asked(way(("then", star, step(1)), unknown(0), unknown(1)), 0, 1)
        self.assertEqual(self.check_least(TOWN, stats, (), question, 8), BACKWARD)
        self.assertEqual(self.check_least(TOWN, stats, (right,), question, 8), BACKWARD)
        question = asked(way(("then", star, step(1)), node(0), unknown(0)), 1)
        self.assertEqual(self.check_least(TOWN, stats, (right,), question, 4), FORWARD)
        graph = (*graph[:3], (2, 0, 0), (2, 0, 1), *graph[3:])
        right = ("index", star, 0, 0, ((0, 0), (0, 1)))
        question = asked(way(("then", star, step(1)), unknown(0), unknown(1)), 0, 1)
        self.assertEqual(self.check_least(TOWN, stats_of(TOWN, graph), (right,), question, 2 + 2), ("prefix", 0))

    def test_a_kind_without_nodes(self):
        question = asked(("or", (way(step(7), unknown(0), unknown(1)), way(("stay",), unknown(1), unknown(1)))), 0, 2)
        self.check_least(TOWN, stats_of(TOWN, ()), (), question, 0)

    def test_eight_parts(self):
        # Each part has a bound of its own; so the cheapest one comes first, and then one source is left.
        many = (9, 4, 7, 3, 8, 2, 6, 5)
        parts = tuple(way(step(label), unknown(0), unknown(1)) for label in range(8))
        bound = 20 * 2 + sum(many) - 2
        for word, told in (("and", bound), ("or", 20 * sum(many))):
            self.check_least(WIDE, wide_stats(*many), (), asked((word, parts), 0, 0), told)
        indexes = tuple(
            ("index", step(label), 0, 0, tuple((0, y) for y in range(label))) for label in list(range(8)) * 3
        )
        self.check_least(WIDE, wide_stats(*many), indexes, asked(("and", parts), 0, 0), 0 + 1 + 2 + 3 + 4 + 2 + 6 + 5)

    def test_eight_parts_within(self):
        chance = by_chance(371)
        for _ in range(5):
            stats = ("stats", tuple((many, chance.randint(1, many), chance.randint(1, many)) for many in
                                    [chance.randint(1, 9) for _ in range(12)]))
            ways = [way(step(label), unknown(label % 2), node(label)) for label in range(8)]
            flat = asked(("and", tuple(ways)), 0, 0)
            body = ways[0]
            for part in ways[1:]:
                body = ("and", (part, body))
            nested = bound_of(WIDE, stats, (), asked(body, 0, 0), plan_of(WIDE, stats, (), asked(body, 0, 0)))
            least = bound_of(WIDE, stats, (), flat, plan_of(WIDE, stats, (), flat))
            # All orders of the nested parts are orders of the flat ones, too.
            self.assertLessEqual(least, nested)
            orders = [chance.sample(range(8), 8) for _ in range(200)]
            for order in orders:
                plans = tuple(chance.choice((FORWARD, BACKWARD)) for _ in range(8))
                self.assertLessEqual(least, bound_of(WIDE, stats, (), flat, ("parts", tuple(order), plans)))

    def test_all_plans_by_chance(self):
        chance = by_chance(372)
        compared = several = 0
        while compared < 150:
            schema = chance.choice((FLAT, PAIR, TOWN))
            graph = some_graph(schema, chance, chance.randrange(14))
            question = some_question(schema, chance)
            indexes = some_indexes(schema, some_graph(schema, chance, chance.randrange(14)), question)
            indexes = tuple(chance.sample(indexes, min(len(indexes), chance.randrange(8))))
            if many_plans(schema, indexes, question, question[2]) > 3000:
                continue
            compared += 1
            stats = stats_of(schema, graph)
            nodes = first_nodes(schema, question)
            plans = all_plans(schema, indexes, question, question[2])
            bounds = [bound_told(schema, stats, indexes, question[2], plan, nodes)[0] for plan in plans]
            plan = self.check_least(schema, stats, indexes, question, min(bounds))
            self.assertIn(plan, plans)
            several += len(set(bounds)) > 2 and len(ways_told(question[2])) > 1
        self.assertGreater(several, 25)

    def test_all_orders_by_chance(self):
        chance = by_chance(374)
        late = 0
        for _ in range(60):
            numbers = [chance.randint(1, 30) for _ in range(12)]
            stats = ("stats", tuple((many, chance.randint(1, min(many, 20)), chance.randint(1, min(many, 20)))
                                    for many in numbers))
            ends = [unknown(0), unknown(1), unknown(0), unknown(1), node(7)]
            parts = []
            for label in range(chance.randint(2, 4)):
                expression = ("star", step(label)) if chance.random() < 0.3 else step(label, chance.randrange(2))
                parts.append(way(expression, chance.choice(ends), chance.choice(ends)))
            if len(parts) == 4 and chance.random() < 0.5:
                parts[2:] = [("or", tuple(parts[2:]))]
            question = asked(("and", tuple(parts)), 0, 0)
            plans = all_plans(WIDE, (), question, question[2])
            bounds = [bound_told(WIDE, stats, (), question[2], plan, [20, 20])[0] for plan in plans]
            plan = self.check_least(WIDE, stats, (), question, min(bounds))
            late += plan[1] != tuple(range(len(parts)))
        self.assertGreater(late, 12)

    def test_the_table_is_the_same(self):
        chance = by_chance(373)
        for _ in range(40):
            schema = chance.choice((FLAT, PAIR, TOWN))
            graph = some_graph(schema, chance, chance.randrange(14))
            question = some_question(schema, chance)
            indexes = some_indexes(schema, graph, question)
            stats = stats_of(schema, graph)
            plan = plan_of(schema, stats, indexes, question)
            table, touches = run_plan(schema, graph, indexes, question, plan)
            self.assertEqual(table, table_of(schema, graph, question))
            self.assertLessEqual(touches, bound_of(schema, stats, indexes, question, plan))


if __name__ == "__main__":
    unittest.main()
