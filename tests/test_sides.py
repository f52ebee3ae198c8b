"""Sides: [16]."""

import itertools
import unittest

from edgesaway.books import book_of
from edgesaway.meaning import joined, letter_ends
from edgesaway.searches import Search
from edgesaway.sides import bars, is_closed, opened
from tests.support import FLAT, PAIR, TOWN, by_chance, kind_at, some_book, some_graph


def step(label, back=0):
    return ("step", label, back)


def closed_told(schema, graph, book, x, side):
    """Whether a tuple of states is a closed side, word by word as [16] tells it."""
    backs = dict(book[2])
    for node, label in side:
        if label not in backs or kind_at(schema, node) != letter_ends(schema, (label, backs[label]))[1]:
            return False
    if list(side) != sorted(set(side)):
        return False
    for source, a, target in graph:
        if a in backs:
            u, v = (target, source) if backs[a] else (source, target)
            is_open = (u == x and a in book[3]) or any((u, p) in side and (p, a) in book[4] for p in backs)
            if is_open and (v, a) not in side:
                return False
    return True


class Opened(unittest.TestCase):
    def test_told(self):
        book = book_of(TOWN, ("then", ("star", ("either", step(0), step(1))), ("maybe", step(5))))
        self.assertEqual(opened(book, 2, ()), ((2, 0), (2, 1), (2, 5)))
        told = ((1, 0), (1, 1), (1, 5), (2, 0), (2, 1), (2, 5), (4, 0), (4, 1), (4, 5))
        self.assertEqual(opened(book, 2, ((1, 0), (4, 1), (4, 5))), told)
        self.assertEqual(opened(("book", 1, (), (), (), ()), 0, ()), ())

    def test_gates_of_a_search(self):
        chance = by_chance(23)
        for _ in range(60):
            graph = some_graph(PAIR, chance, 9)
            book = some_book(PAIR, chance, range(6))
            for x in range(5):
                search = Search(PAIR, graph, book, x)
                gates = opened(book, x, search.states)
                kinds = {letter[0]: letter_ends(PAIR, letter)[0] for letter in book[2]}
                self.assertEqual(search.gates, tuple(g for g in gates if kind_at(PAIR, g[0]) == kinds[g[1]]))


class Closed(unittest.TestCase):
    GRAPH = ((0, 0, 1), (1, 0, 2), (2, 1, 4))
    BOOK = book_of(TOWN, ("then", ("plus", step(0)), step(1)))

    def test_told(self):
        for side in (((1, 0), (2, 0), (4, 1)), ((0, 0), (1, 0), (2, 0), (4, 1)), ((1, 0), (2, 0), (3, 1), (4, 1))):
            self.assertIs(is_closed(TOWN, self.GRAPH, self.BOOK, 0, side), True, side)
        for side in ((), ((1, 0),), ((1, 0), (2, 0)), ((2, 0), (4, 1)), ((1, 0), (4, 1))):
            self.assertIs(is_closed(TOWN, self.GRAPH, self.BOOK, 0, side), False, side)
        self.assertIs(is_closed(TOWN, self.GRAPH, self.BOOK, 3, ()), True)
        self.assertIs(is_closed(TOWN, (), self.BOOK, 0, ()), True)

    def test_no_sides(self):
        right = ((1, 0), (2, 0), (4, 1))
        wrong = [
            ((2, 0), (1, 0), (4, 1)),
            ((1, 0), (1, 0), (2, 0), (4, 1)),
            ((1, 0), (2, 0), (4, 1), (4, 1)),
            ((-1, 0), *right),
            ((0, -1), *right),
            ((-1000000, -1000000), *right),
            ((1, 0), (2, 0), (3, 0), (4, 1)),
            ((1, 0), (2, 0), (2, 1), (4, 1)),
            ((1, 0), (1, 2), (2, 0), (4, 1)),
            ((1, 0), (2, 0), (3, 2), (4, 1)),
            ((1, 0), (2, 0), (4, 1), (5, 1)),
            ((1, 0), (2, 0), (4, 1), (4, 8)),
            ((1, 0), (2, 0), (4, 1), (1000000, 1000000)),
        ]
        self.assertIs(is_closed(TOWN, self.GRAPH, self.BOOK, 0, right), True)
        self.assertIs(bars(TOWN, self.GRAPH, self.BOOK, 0, 3, right), True)
        for side in wrong:
            self.assertIs(is_closed(TOWN, self.GRAPH, self.BOOK, 0, side), False, side)
            self.assertIs(bars(TOWN, self.GRAPH, self.BOOK, 0, 3, side), False, side)

    def test_back(self):
        book = book_of(TOWN, ("then", step(1, 1), step(0, 1)))
        self.assertIs(is_closed(TOWN, self.GRAPH, book, 4, ((1, 0), (2, 1))), True)
        self.assertIs(is_closed(TOWN, self.GRAPH, book, 4, ((1, 0),)), False)
        self.assertIs(is_closed(TOWN, self.GRAPH, book, 4, ((1, 0), (2, 1), (4, 1))), False)

    def test_bars(self):
        side = ((1, 0), (2, 0), (4, 1))
        self.assertIs(bars(TOWN, self.GRAPH, self.BOOK, 0, 4, side), False)
        self.assertIs(bars(TOWN, self.GRAPH, self.BOOK, 0, 3, side), True)
        self.assertIs(bars(TOWN, self.GRAPH, self.BOOK, 0, 3, ((1, 0), (2, 0), (3, 1), (4, 1))), False)
        self.assertIs(bars(TOWN, self.GRAPH, self.BOOK, 0, 3, ((1, 0),)), False)
        star = book_of(TOWN, ("star", step(0)))
        self.assertIs(bars(TOWN, (), star, 0, 0, ()), False)
        self.assertIs(bars(TOWN, (), star, 0, 1, ()), True)
        self.assertIs(bars(TOWN, (), book_of(TOWN, ("plus", step(0))), 0, 0, ()), True)

    def test_by_chance(self):
        chance = by_chance(24)
        for _ in range(250):
            schema = chance.choice((FLAT, PAIR))
            graph = some_graph(schema, chance, chance.randrange(9))
            book = some_book(schema, chance, range(6))
            x = chance.randrange(3)
            states = Search(schema, graph, book, x).states
            # The least closed side, that with states left out, and that with states of all kinds added.
            pool = list(itertools.product(range(-1, 6), range(-1, 7)))
            tried = [states, tuple(state for state in states if chance.random() < 0.8)]
            tried += [tuple(sorted({*states, *chance.sample(pool, many)})) for many in (1, 1, 2)]
            tried.append(states[::-1])
            self.assertIs(is_closed(schema, graph, book, x, states), True)
            for side in tried:
                told = closed_told(schema, graph, book, x, side)
                self.assertIs(is_closed(schema, graph, book, x, side), told, (book, graph, side))
                for y in range(3):
                    shows = told and not any((y, b) in side for b in book[5]) and not (book[1] and x == y)
                    self.assertIs(bars(schema, graph, book, x, y, side), shows)
                    if shows:
                        self.assertIs(joined(schema, graph, book, x, y), False)
            for y in range(3):
                self.assertIs(bars(schema, graph, book, x, y, states), not joined(schema, graph, book, x, y))


if __name__ == "__main__":
    unittest.main()
