"""Pages: [40], [45]."""

import unittest

from edgesaway.pages import firsts_of, pages_for, pages_of
from tests.support import TOWN, all_edges, by_chance, nodes_at, some_graph
from tests.test_planning import WIDE

# Two kinds of eight nodes and labels of both kinds as sources, many and single.
BROAD = ("schema", (("a", 8), ("b", 8), ("c", 0)), (
    ("p", 0, 0, 1, "many"), ("q", 1, 0, 2, "many"), ("r", 0, 1, 0, "single"), ("s", 1, 1, 3, "mark"),
    ("t", 2, 0, 1, "many"), ("u", 0, 2, 1, "many"),
))


def graph_of(many):
    """A graph of so many edges in the wide schema."""
    return tuple((at // 10, at % 10, 0) for at in range(many))


class Pages(unittest.TestCase):
    def test_numbers_of_edges(self):
        for many, lengths in (
            (0, []), (1, [1]), (7, [7]), (8, [8]), (9, [8, 1]), (16, [8, 8]), (17, [8, 8, 1]), (96, [8] * 12),
            (97, [8] * 12 + [1]), (100, [8] * 12 + [4]),
        ):
            graph = graph_of(many)
            pages = pages_of(5, graph)
            self.assertEqual([len(edges) for _, _, edges in pages], lengths)
            self.assertEqual({page[:2] for page in pages}, {("page", 5)} if many else set())
            self.assertEqual(tuple(edge for page in pages for edge in page[2]), graph)

    def test_whole_pages(self):
        self.assertEqual(pages_of(3, ((0, 0, 1),)), (("page", 3, ((0, 0, 1),)),))
        self.assertEqual(pages_of(1, ()), ())

    def test_firsts(self):
        graph = graph_of(20)
        self.assertEqual(firsts_of(pages_of(1, graph)), (graph[0], graph[8], graph[16]))
        self.assertEqual(firsts_of(()), ())


class PagesFor(unittest.TestCase):
    def test_borders(self):
        firsts = ((0, 0, 0), (2, 0, 1), (2, 0, 3), (9, 1, 0))
        # The sources of label 0 are 0 to 7, those of label 1 are 8 to 15.
        self.assertEqual(pages_for(BROAD, firsts, 0), (0, 1, 2))
        self.assertEqual(pages_for(BROAD, firsts, 1), (2, 3))
        self.assertEqual(pages_for(BROAD, firsts, 4), ())
        self.assertEqual(pages_for(BROAD, firsts, 5), (0, 1, 2))
        # The next page begins with the very source, or with the one behind it.
        self.assertEqual(pages_for(BROAD, ((0, 0, 0), (8, 1, 0)), 1), (0, 1))
        self.assertEqual(pages_for(BROAD, ((0, 0, 0), (7, 2, 8)), 1), (1,))
        self.assertEqual(pages_for(BROAD, ((9, 1, 0), (10, 1, 0)), 0), ())

    def test_no_pages(self):
        for label in range(6):
            self.assertEqual(pages_for(BROAD, (), label), ())

    def test_one_page(self):
        self.assertEqual(pages_for(BROAD, ((15, 1, 0),), 1), (0,))
        self.assertEqual(pages_for(BROAD, ((15, 1, 0),), 0), ())
        self.assertEqual(pages_for(BROAD, ((0, 0, 0),), 3), (0,))

    def test_several_pages_of_one_source(self):
        graph = tuple((3, label, target) for label in range(12) for target in range(20))
        self.assertEqual(pages_for(WIDE, firsts_of(pages_of(1, graph)), 0), tuple(range(30)))

    def test_by_chance(self):
        chance = by_chance(401)
        left_out = 0
        for _ in range(100):
            schema = chance.choice((BROAD, TOWN, WIDE))
            graph = some_graph(schema, chance, chance.randrange(60))
            pages = pages_of(1, graph)
            firsts = firsts_of(pages)
            for label in range(len(schema[2])):
                told = pages_for(schema, firsts, label)
                sources = nodes_at(schema, schema[2][label][1])
                plain = [
                    at for at in range(len(pages))
                    if any(firsts[at][0] <= node and not (at + 1 < len(pages) and node > firsts[at + 1][0])
                           for node in sources)
                ]
                self.assertEqual(told, tuple(plain))
                # All edges of the label are on these pages.
                found = [edge for at in told for edge in pages[at][2] if edge[1] == label]
                self.assertEqual(found, [edge for edge in graph if edge[1] == label])
                left_out += len(pages) - len(told)
        self.assertGreater(left_out, 100)
        self.assertTrue(all_edges(BROAD))


if __name__ == "__main__":
    unittest.main()
