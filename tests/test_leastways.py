"""Least ways: [9], [15]."""

import inspect
import itertools
import unittest

from edgesaway.books import book_of
from edgesaway.leastways import LeastWays
from edgesaway.meaning import joined
from tests.reckon import step, ways_by_length
from tests.support import FLAT, PAIR, TOWN, by_chance, some_book, some_graph

# A row of 24 nodes with four labels from each one to the next one.
LONG = ("schema", (("n", 24),), tuple((name, 0, 0, 1, "many") for name in "pqrs"))
ROW = tuple((node, label, node + 1) for node in range(23) for label in range(4))
ANY = ("star", ("either", ("either", step(0), step(1)), ("either", step(2), step(3))))


def all_of(least):
    return list(least.ways())


class Least(unittest.TestCase):
    def test_same_node(self):
        star = LeastWays(TOWN, ((0, 0, 0),), book_of(TOWN, ("star", step(0))), 0, 0)
        self.assertEqual((star.length, star.many, all_of(star)), (0, 1, [()]))
        self.assertEqual((star.way_at(0), star.number_of(())), ((), 0))
        plus = LeastWays(TOWN, ((0, 0, 1), (1, 0, 0)), book_of(TOWN, ("plus", step(0))), 0, 0)
        self.assertEqual((plus.length, plus.many, all_of(plus)), (2, 1, [((0, 0, 1), (1, 0, 0))]))
        loop = LeastWays(TOWN, ((0, 0, 0), (0, 0, 1), (1, 0, 0)), book_of(TOWN, ("plus", step(0))), 0, 0)
        self.assertEqual((loop.length, loop.many, all_of(loop)), (1, 1, [((0, 0, 0),)]))

    def test_empty_word_elsewhere(self):
        star = book_of(TOWN, ("star", step(0)))
        least = LeastWays(TOWN, ((0, 0, 1),), star, 0, 1)
        self.assertEqual((least.length, least.many, all_of(least)), (1, 1, [((0, 0, 1),)]))

    def test_no_way(self):
        for graph, x, y in (((), 0, 1), (((0, 0, 1),), 1, 0), (((0, 0, 1),), 0, 2), (((0, 0, 1),), 3, 4)):
            least = LeastWays(TOWN, graph, book_of(TOWN, ("plus", step(0))), x, y)
            self.assertEqual((least.length, least.many, all_of(least)), (None, 0, []))
        least = LeastWays(TOWN, ((0, 0, 1),), ("book", 0, (), (), (), ()), 0, 0)
        self.assertEqual((least.length, least.many, all_of(least)), (None, 0, []))

    def test_an_end_within_a_word(self):
        # A state at y whose label is none of the last ones ends no way.
        graph = ((0, 0, 2), (2, 0, 1), (1, 1, 3), (2, 1, 3))
        book = book_of(TOWN, ("then", ("plus", step(0)), ("maybe", ("then", step(1), step(5)))))
        least = LeastWays(TOWN, (*graph, (3, 5, 3)), book, 0, 3)
        self.assertEqual(all_of(least), [((0, 0, 2), (2, 1, 3), (3, 5, 3))])

    def test_order(self):
        # The label stands behind the source and ahead of the target.
        graph = ((0, 0, 1), (0, 0, 2), (0, 1, 1), (1, 2, 2), (1, 3, 2), (2, 2, 2), (2, 3, 2))
        schema = ("schema", (("n", 3),), tuple((name, 0, 0, 1, "many") for name in "pqrs"))
        either = ("then", ("either", step(0), step(1)), ("either", step(2), step(3)))
        least = LeastWays(schema, graph, book_of(schema, either), 0, 2)
        told = [
            ((0, 0, 1), (1, 2, 2)),
            ((0, 0, 1), (1, 3, 2)),
            ((0, 0, 2), (2, 2, 2)),
            ((0, 0, 2), (2, 3, 2)),
            ((0, 1, 1), (1, 2, 2)),
            ((0, 1, 1), (1, 3, 2)),
        ]
        self.assertEqual((least.length, least.many, all_of(least)), (2, 6, told))
        self.assertEqual([least.way_at(number) for number in range(6)], told)
        self.assertEqual([least.number_of(way) for way in told], list(range(6)))

    def test_order_of_letters_back(self):
        # From 3 back to 0; the edges that lead on from 3 are ordered by the node they lead to, then by the label.
        schema = ("schema", (("n", 4),), tuple((name, 0, 0, 1, "many") for name in "pqrs"))
        graph = ((0, 2, 1), (0, 2, 2), (0, 3, 1), (1, 1, 3), (2, 0, 3), (2, 1, 3))
        either = ("then", ("either", step(0, 1), step(1, 1)), ("either", step(2, 1), step(3, 1)))
        told = [
            ((1, 1, 3), (0, 2, 1)),
            ((1, 1, 3), (0, 3, 1)),
            ((2, 0, 3), (0, 2, 2)),
            ((2, 1, 3), (0, 2, 2)),
        ]
        least = LeastWays(schema, graph, book_of(schema, either), 3, 0)
        self.assertEqual(all_of(least), told)
        self.assertEqual([least.number_of(way) for way in told], list(range(4)))

    def test_great_numbers(self):
        least = LeastWays(LONG, ROW, book_of(LONG, ANY), 0, 23)
        self.assertEqual((least.length, least.many), (23, 4 ** 23))
        first = tuple((node, 0, node + 1) for node in range(23))
        self.assertEqual(least.way_at(0), first)
        self.assertEqual(least.way_at(1), (*first[:-1], (22, 1, 23)))
        self.assertEqual(least.way_at(4 ** 22), ((0, 1, 1), *first[1:]))
        self.assertEqual(least.way_at(4 ** 23 - 1), tuple((node, 3, node + 1) for node in range(23)))
        self.assertEqual(list(itertools.islice(least.ways(), 3)), [least.way_at(number) for number in range(3)])
        chance = by_chance(31)
        for _ in range(200):
            number = chance.randrange(4 ** 23 - 1)
            way = least.way_at(number)
            self.assertEqual(least.number_of(way), number)
            self.assertLess(way, least.way_at(number + 1))

    def test_by_turns(self):
        least = LeastWays(LONG, ROW, book_of(LONG, ANY), 0, 2)
        one = least.ways()
        self.assertEqual(next(one), least.way_at(0))
        self.assertEqual(next(one), least.way_at(1))
        other = least.ways()
        self.assertEqual(next(other), least.way_at(0))
        self.assertEqual(next(one), least.way_at(2))
        self.assertEqual(next(other), least.way_at(1))
        self.assertEqual(list(one), [least.way_at(number) for number in range(3, 16)])
        self.assertEqual(len(list(other)), 14)
        self.assertEqual(len(all_of(least)), 16)

    def test_by_chance(self):
        chance = by_chance(32)
        several = 0
        for _ in range(600):
            schema = chance.choice((FLAT, PAIR))
            graph = some_graph(schema, chance, chance.randrange(6, 22))
            book = some_book(schema, chance, range(6))
            x = chance.randrange(3)
            told = {}
            for row in ways_by_length(schema, graph, book, x, 4):
                for y in {node for node, _ in row} - set(told):
                    told[y] = sorted(way for node, way in row if node == y)
            for y in range(sum(many for _, many in schema[1])):
                least = LeastWays(schema, graph, book, x, y)
                self.assertEqual(least.many > 0, joined(schema, graph, book, x, y))
                if least.length is None or least.length > 4:
                    self.assertNotIn(y, told)
                    continue
                several += least.many > 1
                self.assertEqual(least.length, len(told[y][0]))
                self.assertEqual(all_of(least), told[y])
                self.assertEqual(least.many, len(told[y]))
                self.assertEqual([least.number_of(way) for way in told[y]], list(range(least.many)))
        self.assertGreater(several, 20)

    def test_interface(self):
        least = LeastWays(PAIR, (), book_of(PAIR, step(0)), 0, 1)
        for name in ("length", "many", "ways", "way_at", "number_of"):
            self.assertIn(name, vars(LeastWays))
        for name in ("length", "many"):
            with self.assertRaises(AttributeError):
                setattr(least, name, 1)
        self.assertTrue(inspect.isgeneratorfunction(LeastWays.ways))


if __name__ == "__main__":
    unittest.main()
