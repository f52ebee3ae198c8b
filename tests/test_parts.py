"""Sights and parts: [57], [58], [63]."""

import unittest

from edgesaway.errors import BadSight, Unseen
from edgesaway.graphs import is_graph
from edgesaway.parts import check_sight, part_graph, part_question, part_row, part_schema, whole_edge, whole_row
from edgesaway.schemas import check_schema
from tests.asking import asked, node, some_question, unknown, way
from tests.reckon import step
from tests.seen import Numbers, some_sight, whole_body
from tests.support import FLAT, PAIR, TOWN, by_chance, raised, some_graph

# Nodes a#0 a#2 b#0 b#1; labels over, owner, wall and red.
SIGHT = ("sight", (1, 2, 3, 4), (0, 2, 3, 4))


class Sights(unittest.TestCase):
    def test_single_labels(self):
        for labels, nodes, name in (
            ((2,), (0, 3), "owner"), ((2,), (3, 4), None), ((2,), (0, 1, 2, 4), "owner"), ((6,), (0, 1, 3, 4), "boss"),
            ((6,), (0, 1, 2), None), ((2, 6), (0, 1), "owner"), ((2, 6), (0, 3, 4), "boss"), ((0, 1, 3, 4, 5, 7), (), None),
            ((2, 6), (), "owner"), (tuple(range(8)), tuple(range(5)), None),
        ):
            sight = ("sight", labels, nodes)
            if name is None:
                self.assertIsNone(check_sight(TOWN, sight))
            else:
                self.assertEqual(raised(BadSight, check_sight, TOWN, sight).name, name)

    def test_a_target_kind_without_nodes(self):
        schema = ("schema", (("a", 2), ("b", 0)), (("p", 0, 1, 1, "single"), ("q", 1, 0, 1, "single")))
        self.assertIsNone(check_sight(schema, ("sight", (0,), ())))
        self.assertEqual(raised(BadSight, check_sight, schema, ("sight", (0, 1), (1,))).name, "q")


class Parts(unittest.TestCase):
    def test_schema(self):
        self.assertEqual(part_schema(TOWN, SIGHT), (
            "schema", (("a", 2), ("b", 2), ("c", 0)), (
                ("over", 0, 1, 3, "many"), ("owner", 0, 1, 1, "single"), ("wall", 0, 0, 0, "many"), ("red", 0, 0, 1, "mark"),
            ),
        ))
        self.assertEqual(part_schema(TOWN, ("sight", (5,), ())),
                         ("schema", (("a", 0), ("b", 0), ("c", 0)), (("blue", 1, 1, 4, "mark"),)))
        everything = ("sight", tuple(range(8)), tuple(range(5)))
        self.assertEqual(part_schema(TOWN, everything), TOWN)

    def test_graph(self):
        graph = ((0, 0, 2), (0, 1, 3), (0, 2, 4), (0, 3, 1), (0, 3, 2), (1, 1, 3), (1, 4, 1), (2, 3, 0), (2, 4, 2), (3, 5, 3))
        self.assertEqual(part_graph(TOWN, SIGHT, graph), ((0, 0, 2), (0, 1, 3), (0, 2, 1), (1, 2, 0), (1, 3, 1)))
        self.assertEqual(part_graph(TOWN, ("sight", (0,), ()), graph), ())
        self.assertEqual(part_graph(TOWN, SIGHT, ()), ())

    def test_question(self):
        expression = ("then", ("star", ("either", step(3), ("stay",))), ("plus", ("maybe", step(1))))
        body = ("and", (way(expression, unknown(0), node(4)), ("not", ("or", (way(step(4), node(2), unknown(1)),)))))
        self.assertEqual(part_question(TOWN, SIGHT, asked(body, 0, 0)), asked(("and", (
            way(("then", ("star", ("either", step(2), ("stay",))), ("plus", ("maybe", step(0)))), unknown(0), node(3)),
            ("not", ("or", (way(step(3), node(1), unknown(1)),))),
        )), 0, 0))
        self.assertEqual(part_question(TOWN, SIGHT, asked(way(step(2, 1), node(3), node(0)))),
                         asked(way(step(1, 1), node(2), node(0))))
        # Kinds of which nothing is seen are there nevertheless.
        self.assertEqual(part_question(TOWN, ("sight", (3,), ()), asked(way(step(3), unknown(0), unknown(1)), 0, 2)),
                         asked(way(step(0), unknown(0), unknown(1)), 0, 2))

    def test_what_is_not_seen(self):
        seen = way(step(1), node(0), node(3))
        for body, name in (
            (way(step(0), node(0), node(2)), "road"), (way(step(3), node(1), node(2)), "a#1"),
            (way(step(3), node(2), node(1)), "a#1"), (way(("then", step(3), step(7)), node(1), node(1)), "lost"),
            (way(("either", step(5), step(0)), node(1), node(0)), "blue"), (way(step(6, 1), node(1), node(1)), "boss"),
            (("and", (seen, way(step(4), unknown(0), node(1)), way(step(0), node(0), node(0)))), "a#1"),
            (("or", (seen, ("not", way(step(0), node(1), node(0))), way(step(4), node(1), node(0)))), "road"),
            (("and", (("or", (seen, way(("stay",), node(1), node(0)))), way(step(0), node(0), node(0)))), "a#1"),
        ):
            self.assertEqual(raised(Unseen, part_question, TOWN, SIGHT, asked(body, 0)).name, name)
        sight = ("sight", (0, 1), (0, 1, 2, 3))
        self.assertEqual(raised(Unseen, part_question, TOWN, sight, asked(way(step(1), node(0), node(4)))).name, "b#1")

    def test_rows_and_edges(self):
        self.assertEqual(part_row(SIGHT, (2, 4)), (1, 3))
        self.assertEqual((part_row(SIGHT, ()), part_row(SIGHT, (0,))), ((), (0,)))
        self.assertEqual(whole_row(SIGHT, (1, 3)), (2, 4))
        self.assertEqual(whole_row(SIGHT, ()), ())
        self.assertEqual(whole_edge(SIGHT, (1, 0, 3)), (2, 1, 4))
        self.assertEqual(whole_edge(SIGHT, (0, 3, 0)), (0, 4, 0))

    def test_by_chance(self):
        chance = by_chance(571)
        unseen = 0
        for _ in range(200):
            schema = chance.choice((FLAT, PAIR, TOWN))
            sight = some_sight(schema, chance)
            self.assertIsNone(check_sight(schema, sight))
            numbers = Numbers(schema, sight)
            part = part_schema(schema, sight)
            self.assertEqual(part, numbers.part)
            self.assertIsNone(check_schema(part))
            graph = some_graph(schema, chance, 14)
            small = part_graph(schema, sight, graph)
            self.assertEqual(small, numbers.graph(graph))
            self.assertTrue(is_graph(part, small))
            self.assertEqual([whole_edge(sight, edge) for edge in small],
                             [edge for edge in graph if edge[1] in sight[1] and {edge[0], edge[2]} <= set(sight[2])])
            question = some_question(schema, chance)
            try:
                told = numbers.question(question)
            except KeyError:
                unseen += 1
                raised(Unseen, part_question, schema, sight, question)
                if not sight[2]:
                    continue
                question = some_question(part, chance)
                question = (*question[:2], whole_body(numbers, question[2]))
                told = numbers.question(question)
            self.assertEqual(part_question(schema, sight, question), told)
            row = tuple(chance.choice(sight[2]) for _ in range(2)) if sight[2] else ()
            self.assertEqual(part_row(sight, row), numbers.row(row))
            self.assertEqual(whole_row(sight, numbers.row(row)), row)
        self.assertGreater(unseen, 50)
        self.assertLess(unseen, 190)


if __name__ == "__main__":
    unittest.main()
