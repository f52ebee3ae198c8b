"""Ways and joined nodes: [10]."""

import unittest

from edgesaway.books import book_of, reversed_book
from edgesaway.meaning import is_way, joined, letter_ends, walk_ends
from tests.support import FLAT, PAIR, TOWN, book_pairs, by_chance, nodes_at, pairs_of
from tests.support import some_book, some_expression, some_graph


def step(label, back=0):
    return ("step", label, back)


class Letters(unittest.TestCase):
    def test_letter_ends(self):
        self.assertEqual(letter_ends(TOWN, (0, 0)), (0, 0))
        self.assertEqual(letter_ends(TOWN, (1, 0)), (0, 1))
        self.assertEqual(letter_ends(TOWN, (1, 1)), (1, 0))
        self.assertEqual(letter_ends(TOWN, (5, 0)), (1, 1))
        self.assertEqual(letter_ends(TOWN, (7, 1)), (2, 0))

    def test_walk_ends(self):
        self.assertEqual(walk_ends((1, 0), (0, 1, 4)), (0, 4))
        self.assertEqual(walk_ends((1, 1), (0, 1, 4)), (4, 0))
        self.assertEqual(walk_ends((4, 0), (2, 4, 2)), (2, 2))


class Ways(unittest.TestCase):
    BOOK = book_of(TOWN, ("then", ("star", step(0)), ("then", ("maybe", step(4)), ("then", step(1), step(2, 1)))))

    def test_right_ones(self):
        for way in (
            ((0, 1, 3), (2, 2, 3)),
            ((0, 0, 1), (1, 1, 4), (2, 2, 4)),
            ((0, 0, 0), (0, 0, 0), (0, 4, 0), (0, 1, 3), (2, 2, 3)),
        ):
            self.assertIs(is_way(TOWN, self.BOOK, 0, 2, way), True, way)

    def test_wrong_ones(self):
        for way in (
            (),
            ((0, 1, 3),),
            ((1, 1, 3), (2, 2, 3)),
            ((0, 1, 3), (1, 2, 3)),
            ((0, 1, 3), (2, 2, 4)),
            ((0, 1, 3), (3, 2, 2)),
            ((0, 0, 1), (0, 1, 3), (2, 2, 3)),
            ((0, 4, 1), (1, 1, 3), (2, 2, 3)),
            ((0, 4, 0), (0, 4, 0), (0, 1, 3), (2, 2, 3)),
            ((0, 5, 0), (0, 1, 3), (2, 2, 3)),
            ((0, 1, 1), (2, 2, 1)),
            ((0, 1, 5), (2, 2, 5)),
            ((0, 9, 3), (2, 2, 3)),
            ((0, -7, 3), (2, 2, 3)),
            ((0, 1, -1), (2, 2, -1)),
            ((2, 2, 3), (0, 1, 3)),
        ):
            self.assertIs(is_way(TOWN, self.BOOK, 0, 2, way), False, way)

    def test_empty_way(self):
        star = book_of(TOWN, ("star", step(0)))
        self.assertIs(is_way(TOWN, star, 1, 1, ()), True)
        self.assertIs(is_way(TOWN, star, 4, 4, ()), True)
        self.assertIs(is_way(TOWN, star, 1, 2, ()), False)
        self.assertIs(is_way(TOWN, book_of(TOWN, step(0)), 1, 1, ()), False)

    def test_back(self):
        book = book_of(TOWN, ("then", step(1, 1), step(0, 1)))
        self.assertIs(is_way(TOWN, book, 3, 2, ((1, 1, 3), (2, 0, 1))), True)
        self.assertIs(is_way(TOWN, book, 2, 3, ((2, 0, 1), (1, 1, 3))), False)
        self.assertIs(is_way(TOWN, book, 3, 2, ((1, 1, 3), (1, 0, 2))), False)

    def test_long_one(self):
        way = ((0, 0, 1), (1, 0, 0)) * 500
        self.assertIs(is_way(TOWN, book_of(TOWN, ("plus", step(0))), 0, 0, way), True)
        self.assertIs(is_way(TOWN, book_of(TOWN, ("plus", step(0))), 0, 1, way), False)


class Joined(unittest.TestCase):
    def test_told(self):
        graph = ((0, 0, 1), (1, 1, 4), (2, 2, 4))
        book = Ways.BOOK
        self.assertIs(joined(TOWN, graph, book, 0, 2), True)
        self.assertIs(joined(TOWN, graph, book, 1, 2), True)
        self.assertIs(joined(TOWN, graph, book, 2, 2), False)
        self.assertIs(joined(TOWN, graph, book, 0, 1), False)
        self.assertIs(joined(TOWN, (), book, 0, 2), False)
        # The way is one of the book, but not in the graph.
        self.assertIs(joined(TOWN, graph[:2], book, 0, 2), False)

    def test_empty_word(self):
        stay = book_of(TOWN, ("stay",))
        for x in range(5):
            for y in range(5):
                self.assertIs(joined(TOWN, (), stay, x, y), x == y)

    def test_the_star_needs_marks(self):
        book = book_of(FLAT, ("plus", ("then", step(0), step(3))))
        graph = ((0, 0, 1), (1, 0, 2), (1, 3, 1))
        self.assertIs(joined(FLAT, graph, book, 0, 1), True)
        self.assertIs(joined(FLAT, graph, book, 0, 2), False)
        self.assertIs(joined(FLAT, (*graph, (2, 3, 2)), book, 0, 2), True)

    def test_expressions(self):
        chance = by_chance(8)
        for schema in (FLAT, PAIR):
            nodes = [node for kind in range(len(schema[1])) for node in nodes_at(schema, kind)]
            for _ in range(60):
                expression = some_expression(schema, chance, chance.sample(range(6), 5))
                graph = some_graph(schema, chance, chance.randrange(12))
                book = book_of(schema, expression)
                told = pairs_of(expression, graph, nodes)
                turned = reversed_book(schema, book)
                for x in nodes:
                    for y in nodes:
                        self.assertIs(joined(schema, graph, book, x, y), (x, y) in told)
                        self.assertIs(joined(schema, graph, turned, y, x), (x, y) in told)

    def test_books(self):
        chance = by_chance(9)
        nodes = range(5)
        for _ in range(60):
            book = some_book(PAIR, chance, range(6))
            graph = some_graph(PAIR, chance, chance.randrange(12))
            told = book_pairs(book, graph, nodes)
            for x in nodes:
                for y in nodes:
                    self.assertIs(joined(PAIR, graph, book, x, y), (x, y) in told)


if __name__ == "__main__":
    unittest.main()
