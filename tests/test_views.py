"""Kept views: [3], [17], [26], [27], [50], [51]."""

import unittest

from edgesaway.answers import distance_of
from edgesaway.balls import ball
from edgesaway.errors import BadEdge, Firm, Gone, Held, There, TooMany, Twice, Unknown
from edgesaway.graphs import apart
from edgesaway.truths import truth_of
from edgesaway.views import Views
from tests.asking import SMALL, asked, node, node_at, rows_told, some_question, table_told, truth_told, unknown, way
from tests.asking import ways_told
from tests.dealt import labels_told
from tests.reckon import step
from tests.stored import PLAIN, graph_told, some_changes
from tests.support import FLAT, PAIR, TOWN, by_chance, raised, some_graph

GRAPH = ((0, 0, 1), (0, 1, 2), (1, 3, 1))
R = asked(way(step(2), node(0), unknown(0)), 0)
P01 = asked(way(step(0), node(0), node(1)))
RQ = asked(("and", (way(step(2), unknown(0), node(5)), way(step(1), unknown(0), unknown(0)))), 0)


def kept(question, graph=GRAPH):
    views = Views(PLAIN, graph)
    views.keep("v", question)
    return views


class Kept(unittest.TestCase):
    def test_none(self):
        views = Views(PLAIN, GRAPH)
        self.assertEqual((views.graph, views.names, views.renewed), (GRAPH, (), 0))
        self.assertEqual(views.commit((("put", 5, 0, 5),)), ())
        self.assertEqual(views.graph, (*GRAPH, (5, 0, 5)))
        self.assertEqual(views.commit(()), ())

    def test_unknowns(self):
        for question, table in (
            (P01, ((),)), (asked(("not", P01[2])), ()), (asked(way(step(0), unknown(0), node(1)), 0), ((0,),)),
            (asked(way(step(0), unknown(0), unknown(1)), 0, 0), ((0, 1),)),
            (asked(way(step(3), unknown(0), unknown(0)), 0), ((1,),)),
        ):
            views = kept(question)
            self.assertEqual(views.table("v"), table)
            for row in rows_told(PLAIN, question):
                self.assertEqual(views.truth("v", row), "yes" if row in table else "no")
                self.assertEqual(views.left("v", row), distance_of(PLAIN, GRAPH, question, row))
            self.assertEqual(views.renewed, 0)

    def test_a_kind_without_nodes(self):
        views = Views(TOWN, ())
        views.keep("v", asked(way(step(7), unknown(0), unknown(1)), 0, 2))
        self.assertEqual(views.table("v"), ())
        self.assertEqual(views.commit((("put", 0, 0, 0),)), ())
        self.assertEqual(views.renewed, 0)

    def test_names(self):
        views = Views(PLAIN, GRAPH)
        for name in ("b", "a", "c1"):
            self.assertIsNone(views.keep(name, P01))
        self.assertEqual(views.names, ("a", "b", "c1"))
        self.assertEqual(raised(Twice, views.keep, "b", R).name, "b")
        self.assertEqual(views.table("b"), ((),))
        self.assertIsNone(views.forget("b"))
        self.assertEqual(views.names, ("a", "c1"))
        for call, *things in ((views.forget,), (views.table,), (views.truth, ()), (views.left, ())):
            self.assertEqual(raised(Unknown, call, "b", *things).name, "b")
        views.keep("b", R)
        self.assertEqual(views.table("b"), ())

    def test_twelve_and_thirteen(self):
        views = Views(PLAIN, GRAPH)
        for at in range(12):
            views.keep(f"v{at}", P01)
        self.assertEqual(raised(TooMany, views.keep, "v12", P01).part, "views")
        self.assertEqual(raised(Twice, views.keep, "v3", P01).name, "v3")
        self.assertEqual(len(views.names), 12)
        views.forget("v3")
        views.keep("v12", P01)
        self.assertEqual(raised(TooMany, views.keep, "v3", P01).part, "views")


class Spent(unittest.TestCase):
    def test_not_spent_to_zero_and_beyond(self):
        views = kept(R)
        rows = rows_told(PLAIN, R)
        self.assertEqual([views.left("v", row) for row in rows], [3] * 6)
        # Labels that the way does not have spend nothing.
        self.assertEqual(views.commit((("put", 4, 0, 4), ("take", 0, 1, 2))), ())
        self.assertEqual(([views.left("v", row) for row in rows], views.renewed), ([3] * 6, 0))
        # Spent to exactly 0: all cells are renewed.
        self.assertEqual(views.commit((("put", 4, 2, 4),)), ())
        self.assertEqual(([views.left("v", row) for row in rows], views.renewed), ([3] * 6, 6))
        # Beyond.
        self.assertEqual(views.commit((("put", 5, 2, 5), ("put", 0, 2, 1))), (("v", (1,), "yes"),))
        self.assertEqual(([views.left("v", row) for row in rows], views.renewed), ([3] * 6, 12))

    def test_what_is_left(self):
        question = asked(way(("then", step(0), step(2)), node(0), unknown(0)), 0)
        views = kept(question)
        self.assertEqual([views.left("v", (at,)) for at in range(6)], [3] * 6)
        views.commit((("put", 5, 0, 5),))
        self.assertEqual(([views.left("v", (at,)) for at in range(6)], views.renewed), ([2] * 6, 0))
        views.commit((("take", 5, 0, 5),))
        self.assertEqual(([views.left("v", (at,)) for at in range(6)], views.renewed), ([1] * 6, 0))
        views.commit((("put", 5, 0, 5),))
        self.assertEqual(([views.left("v", (at,)) for at in range(6)], views.renewed), ([3] * 6, 6))
        # All that was changed is spent, also what is taken back at once.
        views.commit((("put", 2, 0, 2), ("take", 2, 0, 2)))
        self.assertEqual([views.left("v", (at,)) for at in range(6)], [1] * 6)

    def test_never(self):
        question = asked(way(("either", step(3), step(0)), node(1), unknown(0)), 0)
        views = kept(question)
        self.assertEqual([views.left("v", (at,)) for at in range(6)], [1, None, 1, 1, 1, 1])
        self.assertEqual(views.commit((("put", 1, 0, 2),)), (("v", (2,), "yes"),))
        self.assertEqual((views.renewed, views.left("v", (1,))), (5, None))

    def test_cells_that_rows_share(self):
        question = asked(("and", (way(step(2), unknown(0), node(0)), way(step(0), node(0), unknown(1)))), 0, 0)
        views = kept(question)
        # 6 cells of each way, for 36 rows.
        views.commit((("put", 5, 0, 5),))
        self.assertEqual(views.renewed, 6)
        views.commit((("put", 5, 2, 5),))
        self.assertEqual(views.renewed, 12)
        turned = views.commit((("put", 3, 2, 0),))
        self.assertEqual((turned, views.renewed), ((("v", (3, 1), "yes"),), 18))
        same = kept(asked(("or", (way(step(0), unknown(0), unknown(0)), way(step(2), unknown(0), unknown(0)))), 0))
        same.commit((("put", 5, 0, 5),))
        self.assertEqual(same.renewed, 6)
        self.assertEqual(kept(asked(way(step(0), unknown(0), unknown(1)), 0, 0)).left("v", (0, 1)), 1)

    def test_rules_of_rows(self):
        """What is left of a row comes from what is left of its cells."""
        views = kept(RQ)
        self.assertEqual([views.left("v", (at,)) for at in range(6)], [7, 5, 5, 5, 5, 5])
        views.commit((("put", 5, 1, 4),))
        self.assertEqual(views.renewed, 5)
        self.assertEqual([views.left("v", (at,)) for at in range(6)], [3 + 2, 5, 5, 5, 5, 3 + 4])


class Commits(unittest.TestCase):
    def test_rows_that_turned(self):
        views = Views(PLAIN, GRAPH)
        views.keep("b", asked(way(step(0), unknown(0), node(1)), 0))
        views.keep("a", P01)
        views.keep("c", asked(("not", P01[2])))
        told = views.commit((("take", 0, 0, 1), ("put", 3, 0, 1), ("put", 2, 0, 1)))
        self.assertEqual(told, (
            ("a", (), "no"), ("b", (0,), "no"), ("b", (2,), "yes"), ("b", (3,), "yes"), ("c", (), "yes"),
        ))
        self.assertEqual((views.table("a"), views.table("b"), views.table("c")), ((), ((2,), (3,)), ((),)))
        # There and back within one commit: nothing turns.
        self.assertEqual(views.commit((("put", 0, 0, 1), ("take", 0, 0, 1))), ())
        self.assertEqual(views.commit((("put", 0, 0, 1),))[0], ("a", (), "yes"))

    def test_the_count(self):
        views = kept(P01)
        views.commit((("take", 0, 0, 1),))
        self.assertEqual(views.renewed, 1)
        views.keep("w", R)
        self.assertEqual(views.renewed, 1)
        views.commit((("put", 0, 0, 1), ("put", 1, 2, 1)))
        self.assertEqual(views.renewed, 8)
        views.forget("w")
        self.assertEqual(views.renewed, 8)
        raised(There, views.commit, (("take", 0, 1, 2), ("put", 0, 0, 1)))
        views.commit(())
        self.assertEqual(views.renewed, 8)
        views.keep("w", R)
        # A cell is renewed once for all changes of a commit.
        views.commit(tuple((word, 0, 0, 0) for word in ("put", "take") * 4))
        self.assertEqual(views.renewed, 9)

    def test_errors(self):
        views = kept(R)
        for kind, told, *changes in (
            (BadEdge, (0, 0, 6), ("put", 0, 0, 6)), (Firm, "f", ("take", 1, 3, 1)), (There, (0, 0, 1), ("put", 0, 0, 1)),
            (Held, (0, 1, 2), ("put", 0, 1, 3)), (Gone, (0, 0, 2), ("take", 0, 0, 2)),
            (There, (0, 2, 2), ("put", 0, 2, 2), ("put", 0, 2, 2)), (Firm, "f", ("put", 0, 2, 2), ("put", 0, 3, 0)),
            (Gone, (0, 0, 1), ("take", 0, 0, 1), ("take", 0, 0, 1), ("put", 9, 9, 9)),
        ):
            self.assertEqual([*vars(raised(kind, views.commit, tuple(changes))).values()], [told])
            self.assertEqual((views.graph, views.table("v"), views.left("v", (2,)), views.renewed), (GRAPH, (), 3, 0))

    def test_many_changes_and_edges(self):
        views = kept(P01, ())
        edges = [(x, label, y) for x in range(6) for label in (0, 2) for y in range(6)]
        edges += [(x, 1, 0) for x in range(6)]
        self.assertEqual(views.commit(tuple(("put", *edge) for edge in edges)), (("v", (), "yes"),))
        self.assertEqual(len(views.graph), 78)


class PlainView:
    """A view told word by word; each cell is a question of its own."""

    def __init__(self, schema, graph, question):
        self.schema, self.question = schema, question
        self.rows = rows_told(schema, question)
        self.cells = {}
        self.ways = ways_told(question[2])
        for row in self.rows:
            for at, body in enumerate(self.ways):
                cell = (at, node_at(body[2], row), node_at(body[3], row))
                self.cells[cell] = self.told(graph, cell)

    def told(self, graph, cell):
        at, x, y = cell
        question = asked(way(self.ways[at][1], node(x), node(y)))
        return truth_of(self.schema, graph, question, ()), distance_of(self.schema, graph, question, ())

    def spend(self, graph, changes):
        renewed = 0
        for cell, (truth, left) in self.cells.items():
            labels = labels_told(self.ways[cell[0]])
            spent = sum(self.schema[2][label][3] for _, _, label, _ in changes if label in labels)
            if left is not None:
                self.cells[cell] = (truth, left - spent)
                if left - spent <= 0:
                    self.cells[cell] = self.told(graph, cell)
                    renewed += 1
        return renewed


class ByChance(unittest.TestCase):
    def test_against_plain_cells(self):
        chance = by_chance(501)
        stood = turned_rows = 0
        for _ in range(120):
            schema = chance.choice((SMALL, SMALL, FLAT, PAIR, TOWN))
            graph = some_graph(schema, chance, chance.randrange(10))
            views = Views(schema, graph)
            plain = {}
            renewed = 0
            for at in range(3):
                question = some_question(schema, chance, None, 2)
                views.keep(f"v{at}", question)
                plain[f"v{at}"] = PlainView(schema, graph, question)
            for _ in range(8):
                tables = {name: views.table(name) for name in plain}
                changes = some_changes(schema, graph, chance, chance.randrange(5), 100)
                graph = graph_told(graph, changes)
                turned = views.commit(changes)
                for name, view in plain.items():
                    renewed += view.spend(graph, changes)
                    self.assertEqual(views.table(name), table_told(schema, graph, view.question))
                self.assertEqual((views.graph, views.renewed), (graph, renewed))
                told = sorted(
                    (name, row, "yes" if row in views.table(name) else "no")
                    for name in plain for row in set(tables[name]) ^ set(views.table(name))
                )
                self.assertEqual(turned, tuple(told))
                turned_rows += len(told)
                name = chance.choice(list(plain))
                view = plain[name]
                for row in view.rows:
                    far = distance_of(schema, graph, view.question, row)
                    left = views.left(name, row)
                    self.assertEqual(views.truth(name, row), truth_told(schema, graph, view.question, row))
                    self.assertTrue(left == far if left is None or far is None else 0 < left <= far)
                    stood += left != far
        self.assertGreater(min(stood, turned_rows), 60, (stood, turned_rows))

    def test_what_is_left_is_sure(self):
        """[50]: the truth of a row is the same in each graph that is nearer than what is left, on its labels."""
        chance = by_chance(502)
        near = 0
        for _ in range(25):
            graph = some_graph(SMALL, chance, chance.randrange(8))
            question = some_question(SMALL, chance, 1, 2)
            views = Views(SMALL, graph)
            views.keep("v", question)
            for _ in range(3):
                changes = some_changes(SMALL, graph, chance, 1, 2)
                graph = graph_told(graph, changes)
                views.commit(changes)
            labels = labels_told(question[2])
            others = [other for _, other in ball(SMALL, graph, 3)]
            for row in rows_told(SMALL, question):
                left = views.left("v", row)
                for other in others:
                    small = [tuple(edge for edge in edges if edge[1] in labels) for edges in (graph, other)]
                    if left is None or apart(SMALL, *small) < left:
                        near += other != graph
                        self.assertEqual(truth_told(SMALL, other, question, row), views.truth("v", row))
        self.assertGreater(near, 200)


if __name__ == "__main__":
    unittest.main()
