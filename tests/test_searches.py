"""Searches: [14], [15]."""

import unittest

from edgesaway.books import book_of
from edgesaway.meaning import joined
from edgesaway.searches import Search
from tests.support import FLAT, PAIR, TOWN, by_chance, kind_at, nodes_at, some_book, some_graph


def step(label, back=0):
    return ("step", label, back)


def search_told(schema, graph, book, x):
    """States, gates and touched edges, by going through [14] until nothing more comes."""
    _, empty, letters, firsts, follows, lasts = book
    backs = dict(letters)
    total = sum(many for _, many in schema[1])
    states = set()
    while True:
        gates = {
            (u, a)
            for u in range(total)
            for a in backs
            if (u == x and a in firsts) or any((u, p) in states and (p, a) in follows for p in backs)
        }
        steps = []
        for source, a, target in graph:
            if a in backs:
                u, v = (target, source) if backs[a] else (source, target)
                if (u, a) in gates:
                    steps.append(((v, a), (source, a, target)))
        if {state for state, _ in steps} == states:
            break
        states = {state for state, _ in steps}
    begins = {a: schema[2][a][2 if backs[a] else 1] for a in backs}
    gates = {(u, a) for u, a in gates if kind_at(schema, u) == begins[a]}
    ends = {v for v, b in states if b in lasts} | ({x} if empty else set())
    return [tuple(sorted(things)) for things in (states, gates, {edge for _, edge in steps}, ends)]


class Searches(unittest.TestCase):
    def check(self, schema, graph, book, x):
        search = Search(schema, graph, book, x)
        told = search_told(schema, graph, book, x)
        self.assertEqual([search.states, search.gates, search.touched, search.ends], told)
        nodes = [node for kind in range(len(schema[1])) for node in nodes_at(schema, kind)]
        self.assertEqual(search.ends, tuple(y for y in nodes if joined(schema, graph, book, x, y)))

    def test_by_chance(self):
        chance = by_chance(22)
        for _ in range(150):
            schema = chance.choice((FLAT, PAIR, TOWN))
            graph = some_graph(schema, chance, chance.randrange(16))
            book = some_book(schema, chance, range(len(schema[2])))
            for x in range(sum(many for _, many in schema[1])):
                self.check(schema, graph, book, x)

    def test_told(self):
        graph = ((0, 0, 1), (1, 0, 2), (1, 4, 1), (2, 1, 4), (2, 2, 3))
        book = book_of(TOWN, ("then", ("plus", step(0)), step(1)))
        search = Search(TOWN, graph, book, 0)
        self.assertEqual(search.states, ((1, 0), (2, 0), (4, 1)))
        self.assertEqual(search.gates, ((0, 0), (1, 0), (1, 1), (2, 0), (2, 1)))
        self.assertEqual(search.touched, ((0, 0, 1), (1, 0, 2), (2, 1, 4)))
        self.assertEqual(search.ends, (4,))

    def test_back(self):
        graph = ((0, 1, 3), (0, 2, 3), (1, 1, 3), (1, 2, 4), (2, 1, 4))
        search = Search(TOWN, graph, book_of(TOWN, ("then", step(1, 1), step(2))), 3)
        self.assertEqual(search.states, ((0, 1), (1, 1), (3, 2), (4, 2)))
        self.assertEqual(search.gates, ((0, 2), (1, 2), (3, 1)))
        self.assertEqual(search.touched, ((0, 1, 3), (0, 2, 3), (1, 1, 3), (1, 2, 4)))
        self.assertEqual(search.ends, (3, 4))

    def test_empty_word(self):
        search = Search(TOWN, (), book_of(TOWN, ("star", step(0))), 2)
        self.assertEqual([search.states, search.gates, search.touched, search.ends], [(), ((2, 0),), (), (2,)])
        search = Search(TOWN, (), book_of(TOWN, ("star", step(0))), 4)
        self.assertEqual([search.states, search.gates, search.touched, search.ends], [(), (), (), (4,)])
        search = Search(TOWN, ((0, 0, 0),), ("book", 1, (), (), (), ()), 0)
        self.assertEqual([search.states, search.gates, search.touched, search.ends], [(), (), (), (0,)])

    def test_node_without_edges(self):
        search = Search(TOWN, ((0, 0, 1),), book_of(TOWN, step(0)), 2)
        self.assertEqual([search.states, search.gates, search.touched, search.ends], [(), ((2, 0),), (), ()])

    def test_words_that_cannot_be_completed(self):
        # From label 7 on nothing leads; label 0 leads on, but never to one of the lasts.
        book = ("book", 0, ((0, 0), (1, 0), (3, 0)), (0,), ((0, 0), (0, 3), (3, 3)), (1,))
        graph = ((0, 0, 1), (1, 3, 2), (2, 3, 2))
        search = Search(TOWN, graph, book, 0)
        self.assertEqual(search.states, ((1, 0), (2, 3)))
        self.assertEqual(search.touched, graph)
        self.assertEqual(search.ends, ())

    def test_behind_two_gates(self):
        # The edge from 1 to 2 is touched by way of 0 and from the beginning, and told once.
        book = book_of(TOWN, ("plus", step(0)))
        graph = ((0, 0, 1), (1, 0, 0), (1, 0, 2))
        self.assertEqual(Search(TOWN, graph, book, 1).touched, graph)
        book = book_of(TOWN, ("then", ("either", step(0), step(3)), step(6)))
        graph = ((0, 0, 1), (0, 3, 1), (1, 6, 2))
        search = Search(TOWN, graph, book, 0)
        self.assertEqual(search.touched, graph)
        self.assertEqual(search.gates, ((0, 0), (0, 3), (1, 6)))

    def test_properties(self):
        search = Search(TOWN, (), book_of(TOWN, step(0)), 0)
        for name in ("states", "gates", "touched", "ends"):
            self.assertIn(name, vars(Search))
            with self.assertRaises(AttributeError):
                setattr(search, name, ())


if __name__ == "__main__":
    unittest.main()
