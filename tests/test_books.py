"""Expressions and books: [8], [9]."""

import unittest

from edgesaway.books import book_of, has_word, is_book, labels_of, meet, reversed_book
from edgesaway.errors import TooLarge, Twice
from tests.support import FLAT, PAIR, TOWN, book_words, by_chance, raised, some_book, some_expression, words_told

WIDE = ("schema", (("a", 1),), tuple((f"l{n}", 0, 0, 1, "many") for n in range(10)) + (("m", 0, 0, 1, "mark"),))
STAY = ("stay",)


def step(label, back=0):
    return ("step", label, back)


def row(word, labels):
    """An expression that joins the steps of some labels from the left."""
    expression = step(labels[0])
    for label in labels[1:]:
        expression = (word, expression, step(label))
    return expression


class BookOf(unittest.TestCase):
    def test_each_form(self):
        one, two = step(0), step(1, 1)
        letters = ((0, 0), (1, 1))
        told = [
            (STAY, ("book", 1, (), (), (), ())),
            (one, ("book", 0, ((0, 0),), (0,), (), (0,))),
            (two, ("book", 0, ((1, 1),), (1,), (), (1,))),
            (("then", one, two), ("book", 0, letters, (0,), ((0, 1),), (1,))),
            (("then", two, one), ("book", 0, letters, (1,), ((1, 0),), (0,))),
            (("either", two, one), ("book", 0, letters, (0, 1), (), (0, 1))),
            (("star", one), ("book", 1, ((0, 0),), (0,), ((0, 0),), (0,))),
            (("plus", one), ("book", 0, ((0, 0),), (0,), ((0, 0),), (0,))),
            (("maybe", one), ("book", 1, ((0, 0),), (0,), (), (0,))),
            (("then", one, STAY), ("book", 0, ((0, 0),), (0,), (), (0,))),
            (("either", STAY, one), ("book", 1, ((0, 0),), (0,), (), (0,))),
            (("star", STAY), ("book", 1, (), (), (), ())),
            (("plus", ("maybe", one)), ("book", 1, ((0, 0),), (0,), ((0, 0),), (0,))),
            (("then", ("maybe", one), two), ("book", 0, letters, (0, 1), ((0, 1),), (1,))),
            (("then", one, ("star", two)), ("book", 0, letters, (0,), ((0, 1), (1, 1)), (0, 1))),
            (("star", ("then", one, two)), ("book", 1, letters, (0,), ((0, 1), (1, 0)), (1,))),
            (("plus", ("either", one, two)), ("book", 0, letters, (0, 1), ((0, 0), (0, 1), (1, 0), (1, 1)), (0, 1))),
            (("then", one, step(3)), ("book", 0, ((0, 0), (3, 0)), (0,), ((0, 3),), (3,))),
        ]
        for expression, book in told:
            self.assertEqual(book_of(FLAT, expression), book, expression)

    def test_against_the_words(self):
        chance = by_chance(3)
        for _ in range(250):
            expression = some_expression(FLAT, chance, chance.sample(range(6), 3), chance.randrange(1, 5))
            book = book_of(FLAT, expression)
            words = words_told(expression, 6)
            self.assertEqual(book_words(book, 6), words, expression)
            self.assertIs(is_book(FLAT, book), True)
            labels = labels_of(expression)
            self.assertEqual(sorted(letter[0] for letter in book[2]), sorted(labels))
            # Of 3 labels each pair that comes at all stands in some word of at most 6.
            self.assertEqual(book[3], tuple(sorted({word[0] for word in words if word})))
            self.assertEqual(book[4], tuple(sorted({pair for word in words for pair in zip(word, word[1:])})))
            self.assertEqual(book[5], tuple(sorted({word[-1] for word in words if word})))
            self.assertEqual(book[1], int(() in words))

    def test_labels_of(self):
        expression = ("then", ("star", step(4)), ("either", ("maybe", step(2, 1)), ("plus", ("then", STAY, step(7)))))
        self.assertEqual(labels_of(expression), (4, 2, 7))
        self.assertEqual(labels_of(("then", step(1), ("then", step(0), step(1)))), (1, 0, 1))
        self.assertEqual(labels_of(STAY), ())

    def test_too_large(self):
        for word in ("then", "either"):
            self.assertEqual(len(book_of(WIDE, row(word, range(8)))[2]), 8)
            self.assertEqual(raised(TooLarge, book_of, WIDE, row(word, range(9))).part, "expression")
        self.assertEqual(raised(TooLarge, book_of, WIDE, row("then", [0] * 9)).part, "expression")
        long = ("then", row("then", range(8)), ("star", STAY))
        self.assertEqual(len(book_of(WIDE, long)[2]), 8)

    def test_twice(self):
        self.assertEqual(raised(Twice, book_of, WIDE, row("then", [0, 1, 2, 1, 0])).name, "l1")
        self.assertEqual(raised(Twice, book_of, WIDE, row("either", [0, 0, 1, 1])).name, "l0")
        self.assertEqual(raised(Twice, book_of, WIDE, ("then", step(3), ("star", step(3, 1)))).name, "l3")
        self.assertEqual(raised(Twice, book_of, WIDE, row("then", [10, 10])).name, "m")
        self.assertEqual(raised(Twice, book_of, WIDE, row("then", [0, 1, 2, 3, 4, 5, 6, 0])).name, "l0")

    def test_twenty_within_one_another(self):
        expression = step(0)
        for at in range(19):
            expression = (("star", "plus", "maybe")[at % 3], expression)
        self.assertEqual(book_of(FLAT, expression), ("book", 1, ((0, 0),), (0,), ((0, 0),), (0,)))


class IsBook(unittest.TestCase):
    BOOK = ("book", 0, ((0, 0), (1, 1), (4, 0)), (0, 4), ((0, 1), (1, 0), (1, 4)), (1,))

    def spoilt(self, at, part):
        return (*self.BOOK[:at], part, *self.BOOK[at + 1:])

    def test_right_ones(self):
        self.assertIs(is_book(TOWN, self.BOOK), True)
        self.assertIs(is_book(TOWN, ("book", 0, (), (), (), ())), True)
        self.assertIs(is_book(TOWN, ("book", 1, ((0, 0), (1, 0)), (), (), ())), True)
        letters = tuple((label, 0) for label in range(8))
        labels = tuple(range(8))
        self.assertIs(is_book(TOWN, ("book", 1, letters, labels, tuple((p, p) for p in labels), labels)), True)
        ten = tuple((label, 1) for label in range(10))
        self.assertIs(is_book(WIDE, ("book", 0, ten, (9,), (), (9,))), True)
        chance = by_chance(4)
        for _ in range(50):
            self.assertIs(is_book(PAIR, some_book(PAIR, chance, range(6))), True)

    def test_spoilt_ones(self):
        wrong = [
            self.spoilt(0, "bock"), self.spoilt(0, ""), self.spoilt(1, 2), self.spoilt(1, -1),
            self.spoilt(2, ((1, 1), (0, 0), (4, 0))),
            self.spoilt(2, ((0, 0), (0, 0), (1, 1), (4, 0))),
            self.spoilt(2, ((0, 0), (0, 1), (1, 1), (4, 0))),
            self.spoilt(2, ((0, 0), (1, 2), (4, 0))),
            self.spoilt(2, ((0, 0), (1, -1), (4, 0))),
            self.spoilt(2, ((0, 0), (1, 1), (4, 1))),
            self.spoilt(2, ((0, 0), (1, 1), (4, 0), (8, 0))),
            self.spoilt(2, ((-1, 0), (0, 0), (1, 1), (4, 0))),
            self.spoilt(2, ((0, 0), (1, 1))),
            self.spoilt(2, ()),
            self.spoilt(3, (4, 0)), self.spoilt(3, (0, 0)), self.spoilt(3, (0, 2)), self.spoilt(3, (-1, 0)),
            self.spoilt(4, ((1, 0), (0, 1))), self.spoilt(4, ((0, 1), (0, 1))), self.spoilt(4, ((0, 2),)),
            self.spoilt(4, ((2, 0),)), self.spoilt(4, ((-1, 0),)), self.spoilt(4, ((0, 1000000),)),
            self.spoilt(5, (1, 0)), self.spoilt(5, (1, 1)), self.spoilt(5, (3,)), self.spoilt(5, (-1000000, 1)),
        ]
        for book in wrong:
            self.assertIs(is_book(TOWN, book), False, book)


class Words(unittest.TestCase):
    def test_has_word(self):
        book = ("book", 0, ((0, 0), (1, 1), (4, 0)), (0, 4), ((0, 1), (1, 0), (1, 4)), (1,))
        for word in ((0, 1), (0, 1, 0, 1)):
            self.assertIs(has_word(book, word), True, word)
        for word in ((), (0,), (1,), (4,), (4, 1), (0, 1, 4), (0, 0, 1), (1, 0, 1), (0, 1, 1), (7,), (-1,), (0, 7, 1)):
            self.assertIs(has_word(book, word), False, word)
        self.assertIs(has_word(("book", 1, (), (), (), ()), ()), True)
        self.assertIs(has_word(("book", 0, ((2, 0),), (2,), (), (2,)), (2,)), True)

    def test_all_words(self):
        chance = by_chance(5)
        for _ in range(40):
            book = some_book(PAIR, chance, range(4))
            words = book_words(book, 3)
            labels = range(5)
            rows = [()] + [(a,) for a in labels] + [(a, b) for a in labels for b in labels]
            rows += [(a, b, c) for a in labels for b in labels for c in labels]
            for word in rows:
                self.assertIs(has_word(book, word), word in words)


class Reverse(unittest.TestCase):
    def test_told(self):
        book = ("book", 1, ((0, 0), (1, 1), (4, 0)), (0, 4), ((0, 1), (1, 0), (1, 4)), (1,))
        told = ("book", 1, ((0, 1), (1, 0), (4, 0)), (1,), ((0, 1), (1, 0), (4, 1)), (0, 4))
        self.assertEqual(reversed_book(TOWN, book), told)

    def test_twice_reversed(self):
        chance = by_chance(6)
        for _ in range(80):
            book = some_book(PAIR, chance, range(6))
            turned = reversed_book(PAIR, book)
            self.assertIs(is_book(PAIR, turned), True)
            self.assertEqual(reversed_book(PAIR, turned), book)
            self.assertEqual(book_words(turned, 4), {word[::-1] for word in book_words(book, 4)})


class Meet(unittest.TestCase):
    def test_told(self):
        one = ("book", 1, ((0, 0), (1, 0), (2, 1), (4, 0)), (0, 1, 2), ((0, 1), (0, 2), (1, 1), (4, 0)), (1, 2, 4))
        two = ("book", 1, ((0, 0), (1, 1), (2, 1), (3, 0)), (0, 1, 3), ((0, 1), (0, 2), (1, 1), (3, 0)), (1, 2, 3))
        told = ("book", 1, ((0, 0), (2, 1)), (0,), ((0, 2),), (2,))
        self.assertEqual(meet(one, two), told)
        self.assertEqual(meet(two, one), told)
        self.assertEqual(meet(one, ("book", 0, *two[2:])), ("book", 0, *told[2:]))
        self.assertEqual(meet(("book", 0, *one[2:]), two), ("book", 0, *told[2:]))
        self.assertEqual(meet(one, one), one)
        self.assertEqual(meet(one, ("book", 0, (), (), (), ())), ("book", 0, (), (), (), ()))

    def test_words(self):
        chance = by_chance(7)
        for _ in range(80):
            one, two = (some_book(PAIR, chance, range(6)) for _ in range(2))
            both = meet(one, two)
            self.assertIs(is_book(PAIR, both), True)
            letters = {label for label, _ in both[2]}
            words = {word for word in book_words(one, 3) & book_words(two, 3) if set(word) <= letters}
            self.assertEqual(book_words(both, 3), words)


if __name__ == "__main__":
    unittest.main()
