"""The texts of nodes, edges and graphs: [61] to [64]."""

import unittest

from edgesaway.edgetexts import node_text, read_edges, read_graph, write_graph
from edgesaway.errors import BadEdge, BadNumber, BadText, Held, There, Unknown
from tests.support import FLAT, PAIR, TOWN, by_chance, raised, some_graph

GRAPH = ((0, 0, 1), (0, 1, 4), (1, 2, 3), (2, 4, 2), (3, 5, 3))
TEXT = """edge a#0 road a#1 ;
edge a#0 over b#1 ;
edge a#1 owner b#0 ;
edge a#2 red a#2 ;
edge b#0 blue b#0 ;
"""


class Write(unittest.TestCase):
    def test_node_text(self):
        self.assertEqual([node_text(TOWN, node) for node in range(5)], ["a#0", "a#1", "a#2", "b#0", "b#1"])
        gap = ("schema", (("a", 0), ("b", 2)), (("l", 0, 0, 1, "many"),))
        self.assertEqual([node_text(gap, node) for node in range(2)], ["b#0", "b#1"])

    def test_told(self):
        self.assertEqual(write_graph(TOWN, GRAPH), TEXT)
        self.assertEqual(write_graph(TOWN, ()), "")

    def test_read_back(self):
        chance = by_chance(12)
        for schema in (TOWN, FLAT, PAIR):
            for _ in range(20):
                graph = some_graph(schema, chance, 10)
                text = write_graph(schema, graph)
                self.assertEqual(read_graph(schema, text), graph)
                self.assertEqual(read_edges(schema, text), graph)
                self.assertEqual(read_graph(schema, text.replace(" ;\n", ";").replace("#", "\n # ")), graph)
                lines = text.splitlines()
                chance.shuffle(lines)
                self.assertEqual(read_graph(schema, "".join(lines)), graph)


class ReadEdges(unittest.TestCase):
    def test_in_the_order_of_the_text(self):
        text = "edge a#2 road a#0; edge a#0 road a#1; edge a#2 road a#0; edge a#0 owner b#0; edge a#0 owner b#1;"
        self.assertEqual(read_edges(TOWN, text), ((2, 0, 0), (0, 0, 1), (2, 0, 0), (0, 2, 3), (0, 2, 4)))
        self.assertEqual(read_edges(TOWN, ""), ())
        self.assertEqual(read_edges(TOWN, " \n "), ())
        self.assertEqual(read_edges(TOWN, "edge a#0 wall a#1;"), ((0, 3, 1),))

    def test_bad_text(self):
        tokens = "edge a # 0 road a # 1 ; edge a # 1 road a # 2 ;".split()
        for at in range(len(tokens)):
            for wrong in ("Big", "=", "01", "10000", "kind", "("):
                text = " ".join([*tokens[:at], wrong, *tokens[at + 1:]])
                self.assertEqual(raised(BadText, read_edges, TOWN, text).at, at, text)
            if at % 9:
                text = " ".join(tokens[:at])
                self.assertEqual(raised(BadText, read_edges, TOWN, text).at, at, text)
                self.assertEqual(raised(BadText, read_graph, TOWN, text).at, at, text)
        self.assertEqual(raised(BadText, read_edges, TOWN, TEXT + "x").at, 45)
        self.assertEqual(raised(BadText, read_edges, TOWN, "edge z#9 y x#9 ; edge").at, 10)

    def test_names_and_numbers(self):
        told = [
            (Unknown, "edge z#9 y x#9 ;", "z"),
            (BadNumber, "edge a#3 y x#9 ;", 3),
            (Unknown, "edge a#2 y x#9 ;", "y"),
            (Unknown, "edge a#2 road x#9 ;", "x"),
            (BadNumber, "edge a#2 road b#2 ;", 2),
            (BadNumber, "edge a#2 road c#0 ;", 0),
            (BadNumber, "edge a#9999 road a#0 ;", 9999),
            # The name of a label where a kind stands, and the other way round.
            (Unknown, "edge road#0 road a#0 ;", "road"),
            (Unknown, "edge a#0 a a#0 ;", "a"),
            (Unknown, "edge a#0 road over#0 ;", "over"),
        ]
        for kind, text, thing in told:
            error = raised(kind, read_edges, TOWN, text)
            self.assertEqual(error.name if kind is Unknown else error.number, thing, text)
            error = raised(kind, read_graph, TOWN, "edge a#0 road a#0 ; edge a#0 road a#0 ; " + text)
            self.assertEqual(error.name if kind is Unknown else error.number, thing, text)

    def test_bad_edge(self):
        self.assertEqual(raised(BadEdge, read_edges, TOWN, "edge a#0 road b#0 ;").edge, (0, 0, 3))
        self.assertEqual(raised(BadEdge, read_edges, TOWN, "edge a#0 red a#1 ;").edge, (0, 4, 1))
        text = "edge b#0 over a#1 ; edge z#0 road a#0 ;"
        self.assertEqual(raised(BadEdge, read_edges, TOWN, text).edge, (3, 1, 1))
        text = "edge a#0 road b#7 ; edge a#0 red a#1 ;"
        self.assertEqual(raised(BadNumber, read_edges, TOWN, text).number, 7)
        text = "edge a#0 road a#1 ; edge a#0 red a#1 ; edge a#0 road b#0 ;"
        self.assertEqual(raised(BadEdge, read_edges, TOWN, text).edge, (0, 4, 1))


class ReadGraph(unittest.TestCase):
    def test_there(self):
        text = "edge a#1 road a#2 ; edge a#0 road a#1 ; edge a#1 road a#2 ;"
        self.assertEqual(raised(There, read_graph, TOWN, text).edge, (1, 0, 2))
        text = "edge a#1 owner b#1 ; edge a#1 owner b#1 ;"
        self.assertEqual(raised(There, read_graph, TOWN, text).edge, (1, 2, 4))

    def test_held(self):
        text = "edge a#1 owner b#1 ; edge a#2 owner b#0 ; edge a#1 boss a#0 ; edge a#1 owner b#0 ;"
        self.assertEqual(raised(Held, read_graph, TOWN, text).edge, (1, 2, 4))

    def test_which_comes_first(self):
        there = "edge a#0 road a#1 ; edge a#0 road a#1 ; "
        held = "edge a#0 owner b#0 ; edge a#0 owner b#1 ; "
        self.assertEqual(raised(There, read_graph, TOWN, there + held).edge, (0, 0, 1))
        self.assertEqual(raised(Held, read_graph, TOWN, held + there).edge, (0, 2, 3))
        text = "edge a#0 owner b#0 ; edge a#0 road a#1 ; edge a#0 road a#1 ; edge a#0 owner b#1 ;"
        self.assertEqual(raised(There, read_graph, TOWN, text).edge, (0, 0, 1))
        text = "edge a#0 road a#1 ; edge a#0 owner b#1 ; edge a#0 owner b#0 ; edge a#0 road a#1 ;"
        self.assertEqual(raised(Held, read_graph, TOWN, text).edge, (0, 2, 4))
        self.assertEqual(raised(BadEdge, read_graph, TOWN, there + held + "edge a#0 road b#0 ;").edge, (0, 0, 3))
        self.assertEqual(raised(Unknown, read_graph, TOWN, held + "edge a#0 rood a#0 ;").name, "rood")
        self.assertEqual(raised(BadText, read_graph, TOWN, there + "edge").at, 19)


if __name__ == "__main__":
    unittest.main()
