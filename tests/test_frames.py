"""Frames: [12]."""

import unittest

from edgesaway.books import book_of
from edgesaway.frames import frame_holds, frame_of
from edgesaway.meaning import joined
from tests.support import FLAT, PAIR, TOWN, by_chance, nodes_at, some_book, some_expression, some_graph
from tests.test_trims import fitting_words

P, Q, R = (0, 0), (1, 0), (2, 0)
FREE = ((),)


def row(*expressions):
    whole = expressions[0]
    for expression in expressions[1:]:
        whole = ("then", whole, expression)
    return whole


def either(*expressions):
    whole = expressions[0]
    for expression in expressions[1:]:
        whole = ("either", whole, expression)
    return whole


def step(label, back=0):
    return ("step", label, back)


def least(sets):
    return tuple(sorted(tuple(sorted(one)) for one in sets if not any(other < one for other in sets)))


def frame_told(schema, book, start, end, most):
    """A frame from all fitting words with at most so many labels."""
    backs = dict(book[2])
    stay, starts, turns, ends = set(), {}, {}, {}
    for word in fitting_words(schema, book, start, end, most):
        ahead, marks = None, set()
        for label in word:
            if schema[2][label][4] == "mark":
                marks.add(label)
                continue
            letter = (label, backs[label])
            if ahead is None:
                starts.setdefault(letter, set()).add(frozenset(marks))
            else:
                turns.setdefault((ahead, letter), set()).add(frozenset(marks))
            ahead, marks = letter, set()
        if ahead is None:
            stay.add(frozenset(marks))
        else:
            ends.setdefault(ahead, set()).add(frozenset(marks))
    return (
        "frame",
        least(stay),
        tuple((letter, least(starts[letter])) for letter in sorted(starts)),
        tuple((*pair, least(turns[pair])) for pair in sorted(turns)),
        tuple((letter, least(ends[letter])) for letter in sorted(ends)),
    )


class FrameOf(unittest.TestCase):
    def frame(self, expression):
        return frame_of(FLAT, book_of(FLAT, expression), 0, 0)

    def test_the_document(self):
        schema = ("schema", (("n", 1),), (("p", 0, 0, 1, "many"), ("q", 0, 0, 1, "many"), ("k", 0, 0, 1, "mark"),
                                          ("l", 0, 0, 1, "mark")))
        book = book_of(schema, row(step(0), ("maybe", step(2)), step(1)))
        self.assertEqual(frame_of(schema, book, 0, 0)[3], (((0, 0), (1, 0), ((),)),))
        book = book_of(schema, row(step(0), either(step(2), step(3)), step(1)))
        self.assertEqual(frame_of(schema, book, 0, 0)[3], (((0, 0), (1, 0), ((2,), (3,))),))

    def test_without_steps(self):
        self.assertEqual(self.frame(("stay",)), ("frame", FREE, (), (), ()))
        self.assertEqual(self.frame(("star", step(3))), ("frame", FREE, (), (), ()))
        self.assertEqual(self.frame(("plus", step(3))), ("frame", ((3,),), (), (), ()))
        self.assertEqual(self.frame(row(step(4), step(3))), ("frame", ((3, 4),), (), (), ()))
        told = ("frame", ((3, 4), (5,)), (), (), ())
        self.assertEqual(self.frame(either(row(step(4), step(3)), step(5))), told)
        self.assertEqual(self.frame(step(0)), ("frame", (), ((P, FREE),), (), ((P, FREE),)))

    def test_where_marks_stand(self):
        self.assertEqual(self.frame(row(step(3), step(0))), ("frame", (), ((P, ((3,),)),), (), ((P, FREE),)))
        self.assertEqual(self.frame(row(step(0), step(3))), ("frame", (), ((P, FREE),), (), ((P, ((3,),)),)))
        told = ("frame", (), ((P, FREE),), ((P, Q, ((3, 4),)),), ((Q, FREE),))
        self.assertEqual(self.frame(row(step(0), step(4), step(3), step(1))), told)
        told = ("frame", (), ((P, ((5,),)),), ((P, P, ((3, 5),)),), ((P, ((3,),)),))
        self.assertEqual(self.frame(("plus", row(step(5), step(0), step(3)))), told)

    def test_several_least_sets(self):
        # Sets of different sizes stand side by side; one that contains another one falls away.
        middle = either(row(step(3), step(4)), step(5))
        self.assertEqual(self.frame(row(step(0), middle, step(1)))[3], ((P, Q, ((3, 4), (5,))),))
        middle = either(row(step(3), ("maybe", step(4))), step(5))
        self.assertEqual(self.frame(row(step(0), middle, step(1)))[3], ((P, Q, ((3,), (5,))),))
        self.assertEqual(self.frame(row(step(0), ("plus", either(step(3), step(4))), step(1)))[3], ((P, Q, ((3,), (4,))),))

    def test_back(self):
        told = ("frame", (), (((0, 1), FREE),), (((0, 1), Q, ((4,),)),), ((Q, FREE),))
        self.assertEqual(self.frame(row(step(0, 1), step(4), step(1))), told)

    def test_kinds(self):
        book = book_of(TOWN, row(either(step(4), step(5)), ("maybe", step(1)), ("maybe", step(2))))
        self.assertEqual(frame_of(TOWN, book, 0, 0), ("frame", ((4,),), (), (), ()))
        self.assertEqual(frame_of(TOWN, book, 1, 1), ("frame", ((5,),), (), (), ()))
        told = ("frame", (), (((1, 0), ((4,),)), ((2, 0), ((4,),))), (), (((1, 0), FREE), ((2, 0), FREE)))
        self.assertEqual(frame_of(TOWN, book, 0, 1), told)
        self.assertEqual(frame_of(TOWN, book, 1, 0), ("frame", (), (), (), ()))

    def test_no_book_of_an_expression(self):
        # Between two p the mark 4 can only be come to by the mark 3, but the mark 5 is enough as well.
        letters = ((0, 0), (3, 0), (4, 0), (5, 0))
        book = ("book", 0, letters, (0,), ((0, 3), (0, 5), (3, 3), (3, 4), (4, 0), (5, 0)), (0, 3))
        told = ("frame", (), ((P, FREE),), ((P, P, ((3, 4), (5,))),), ((P, FREE),))
        self.assertEqual(frame_of(FLAT, book, 0, 0), told)

    def test_by_chance(self):
        chance = by_chance(15)
        for _ in range(150):
            # Of 3 letters whatever is least stands in a word of at most 8.
            book = some_book(FLAT, chance, chance.sample(range(6), 3))
            self.assertEqual(frame_of(FLAT, book, 0, 0), frame_told(FLAT, book, 0, 0, 8), book)
        for _ in range(60):
            book = some_book(PAIR, chance, chance.sample(range(6), 4))
            for start in range(2):
                for end in range(2):
                    told = frame_told(PAIR, book, start, end, 9)
                    self.assertEqual(frame_of(PAIR, book, start, end), told, book)

    def test_eight_letters(self):
        labels = (("p", 0, 0, 1, "many"), *[(f"m{n}", 0, 0, 1, "mark") for n in range(8)])
        schema = ("schema", (("n", 1),), labels)
        marks = tuple(range(1, 9))
        letters = tuple((mark, 0) for mark in marks)
        book = ("book", 0, letters, marks, tuple((m, n) for m in marks for n in marks), (7, 8))
        self.assertEqual(frame_of(schema, book, 0, 0), ("frame", ((7,), (8,)), (), (), ()))
        chain = ("book", 0, letters, (1,), tuple((m, m + 1) for m in range(1, 8)), (8,))
        self.assertEqual(frame_of(schema, chain, 0, 0), ("frame", (marks,), (), (), ()))


class FrameHolds(unittest.TestCase):
    def check(self, schema, book, graph):
        for start in range(len(schema[1])):
            for end in range(len(schema[1])):
                frame = frame_of(schema, book, start, end)
                for x in nodes_at(schema, start):
                    for y in nodes_at(schema, end):
                        told = joined(schema, graph, book, x, y)
                        self.assertIs(frame_holds(schema, graph, frame, x, y), told, (book, graph, x, y))

    def test_by_chance(self):
        chance = by_chance(16)
        for _ in range(150):
            schema = chance.choice((FLAT, PAIR, TOWN))
            graph = some_graph(schema, chance, chance.randrange(14))
            labels = chance.sample(range(len(schema[2])), 5)
            self.check(schema, some_book(schema, chance, labels), graph)
            self.check(schema, book_of(schema, some_expression(schema, chance, labels)), graph)

    def test_told(self):
        frame = frame_of(FLAT, book_of(FLAT, row(step(3), step(0), step(4), step(1), step(5))), 0, 0)
        graph = ((0, 0, 1), (0, 3, 0), (1, 1, 2), (1, 4, 1), (2, 5, 2))
        self.assertIs(frame_holds(FLAT, graph, frame, 0, 2), True)
        for edge in graph:
            less = tuple(other for other in graph if other != edge)
            self.assertIs(frame_holds(FLAT, less, frame, 0, 2), False)
        self.assertIs(frame_holds(FLAT, graph, frame, 0, 1), False)
        stay = frame_of(FLAT, book_of(FLAT, step(3)), 0, 0)
        self.assertIs(frame_holds(FLAT, graph, stay, 0, 0), True)
        self.assertIs(frame_holds(FLAT, graph, stay, 1, 1), False)


if __name__ == "__main__":
    unittest.main()
