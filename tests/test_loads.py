"""Loads and exports: [6], [59] to [64]."""

import unittest

from edgesaway.edgetexts import read_edges, read_graph, write_graph
from edgesaway.errors import BadEdge, BadNumber, BadText, Firm, Held, Unknown
from edgesaway.graphs import changed
from edgesaway.loads import export, load_changes
from tests.seen import sees, some_sight
from tests.support import FLAT, PAIR, TOWN, all_edges, by_chance, fits_rules, raised, some_graph

GRAPH = ((0, 0, 1), (0, 2, 3), (0, 3, 1))


def text_of(*edges):
    names = ["a#0", "a#1", "a#2", "b#0", "b#1"]
    return " ".join(f"edge {names[x]} {TOWN[2][label][0]} {names[y]} ;" for x, label, y in edges)


class Loads(unittest.TestCase):
    def test_edges_that_are_not_there(self):
        self.assertEqual(load_changes(TOWN, GRAPH, ""), ())
        self.assertEqual(load_changes(TOWN, GRAPH, text_of(*GRAPH)), ())
        text = text_of((2, 1, 4), (0, 0, 1), (0, 0, 0), (2, 1, 4), (1, 2, 3), (0, 2, 3), (0, 0, 0))
        self.assertEqual(load_changes(TOWN, GRAPH, text),
                         (("put", 0, 0, 0), ("put", 1, 2, 3), ("put", 2, 1, 4)))

    def test_firm_edges(self):
        self.assertEqual(load_changes(TOWN, GRAPH, text_of((0, 3, 1), (0, 0, 0))), (("put", 0, 0, 0),))
        self.assertEqual(raised(Firm, load_changes, TOWN, GRAPH, text_of((0, 3, 1), (0, 3, 2))).name, "wall")
        # Ahead of an edge that is held.
        self.assertEqual(raised(Firm, load_changes, TOWN, GRAPH, text_of((0, 2, 4), (1, 3, 2))).name, "wall")

    def test_held_edges(self):
        for edges, held in (
            (((0, 2, 4),), (0, 2, 3)), (((1, 2, 3), (1, 2, 4)), (1, 2, 3)), (((1, 2, 4), (1, 2, 3)), (1, 2, 4)),
            (((1, 6, 1), (0, 0, 0), (1, 6, 2), (0, 2, 4)), (1, 6, 1)), (((0, 2, 4), (1, 6, 1), (1, 6, 2)), (0, 2, 3)),
            (((0, 2, 3), (0, 2, 4)), (0, 2, 3)),
        ):
            self.assertEqual(raised(Held, load_changes, TOWN, GRAPH, text_of(*edges)).edge, held)
        # The same edge, and edges of other sources and labels, are let.
        text = text_of((0, 2, 3), (1, 2, 4), (1, 2, 4), (1, 6, 0), (2, 6, 0))
        self.assertEqual(load_changes(TOWN, GRAPH, text), (("put", 1, 2, 4), ("put", 1, 6, 0), ("put", 2, 6, 0)))

    def test_errors_of_reading(self):
        wrong = text_of((0, 3, 2), (0, 2, 4))
        for text, kind, told in (
            ("edge a#0 road", BadText, 5), (wrong + " edge", BadText, 19), (wrong + " x", BadText, 18),
            (wrong + " edge d#0 road a#0 ;", Unknown, "d"), (wrong + " edge a#0 lane a#0 ;", Unknown, "lane"),
            (wrong + " edge a#3 road a#0 ;", BadNumber, 3), (wrong + " edge b#0 road a#0 ;", BadEdge, (3, 0, 0)),
            (wrong + " edge a#0 red a#1 ;", BadEdge, (0, 4, 1)),
        ):
            self.assertEqual([*vars(raised(kind, load_changes, TOWN, GRAPH, text)).values()], [told])

    def test_by_chance(self):
        chance = by_chance(601)
        held = firm = let = 0
        for _ in range(300):
            schema = chance.choice((FLAT, PAIR, TOWN))
            graph = some_graph(schema, chance, chance.randrange(10))
            edges = [chance.choice(all_edges(schema)) for _ in range(chance.randrange(6))]
            edges += chance.sample(graph, min(len(graph), 2))
            chance.shuffle(edges)
            text = write_graph(schema, edges)
            self.assertEqual(read_edges(schema, text), tuple(edges))
            missing = [edge for edge in edges if edge not in graph and schema[2][edge[1]][3] == 0]
            if missing:
                firm += 1
                self.assertEqual(raised(Firm, load_changes, schema, graph, text).name, schema[2][missing[0][1]][0])
            elif not fits_rules(schema, sorted({*graph, *edges})):
                held += 1
                told = raised(Held, load_changes, schema, graph, text).edge
                first = [at for at in range(len(edges)) if not fits_rules(schema, sorted({*graph, *edges[:at + 1]}))][0]
                others = [edge for edge in {*graph, *edges[:first]} if edge[:2] == edges[first][:2]]
                self.assertEqual([told], others)
            else:
                let += 1
                changes = load_changes(schema, graph, text)
                self.assertEqual(changes, tuple(("put", *edge) for edge in sorted({*edges} - {*graph})))
                behind = tuple(sorted({*graph, *edges}))
                self.assertEqual(changed(schema, graph, changes), behind)
                for change in changes:
                    graph = changed(schema, graph, (change,))
                self.assertEqual(graph, behind)
        self.assertGreater(min(held, firm, let), 25)


class Exports(unittest.TestCase):
    def test_what_is_seen(self):
        graph = ((0, 0, 1), (0, 0, 2), (0, 2, 3), (0, 3, 2), (2, 0, 0), (2, 4, 2))
        self.assertEqual(export(TOWN, ("sight", (0, 4), (0, 2)), graph),
                         "edge a#0 road a#2 ;\nedge a#2 road a#0 ;\nedge a#2 red a#2 ;\n")
        self.assertEqual(export(TOWN, ("sight", (2,), (0, 3, 4)), graph), "edge a#0 owner b#0 ;\n")
        self.assertEqual(export(TOWN, ("sight", (5,), (3,)), graph), "")
        self.assertEqual(export(TOWN, ("sight", tuple(range(8)), tuple(range(5))), graph), write_graph(TOWN, graph))

    def test_read_back(self):
        chance = by_chance(602)
        for _ in range(100):
            schema = chance.choice((FLAT, PAIR, TOWN))
            sight = some_sight(schema, chance)
            graph = some_graph(schema, chance, chance.randrange(20))
            text = export(schema, sight, graph)
            seen = tuple(edge for edge in graph if sees(sight, edge))
            self.assertEqual(read_graph(schema, text), seen)
            self.assertEqual(load_changes(schema, graph, text), ())
            firm = tuple(edge for edge in graph if schema[2][edge[1]][3] == 0)
            missing = tuple(("put", *edge) for edge in seen if edge not in firm)
            self.assertEqual(load_changes(schema, firm, text), missing)


if __name__ == "__main__":
    unittest.main()
