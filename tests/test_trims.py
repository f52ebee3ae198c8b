"""Trimmed books: [11]."""

import unittest

from edgesaway.books import book_of, is_book
from edgesaway.meaning import letter_ends
from edgesaway.trims import has_fitting, trimmed
from tests.support import FLAT, PAIR, TOWN, book_words, by_chance, some_book

NOTHING = ("book", 0, (), (), (), ())


def step(label, back=0):
    return ("step", label, back)


def fitting_words(schema, book, start, end, most):
    """The words of a book that fit between two kinds, each one looked at alone."""
    backs = dict(book[2])
    found = set()
    for word in book_words(book, most):
        kind = start
        for label in word:
            begin, after = letter_ends(schema, (label, backs[label]))
            kind = after if begin == kind else None
        if kind == end:
            found.add(word)
    return found


class Trimmed(unittest.TestCase):
    def check(self, schema, book, start, end, most):
        words = fitting_words(schema, book, start, end, most)
        told = trimmed(schema, book, start, end)
        self.assertIs(is_book(schema, told), True)
        labels = {label for word in words for label in word}
        self.assertEqual(told[1], int(() in words))
        self.assertEqual(told[2], tuple(letter for letter in book[2] if letter[0] in labels))
        self.assertEqual(told[3], tuple(sorted({word[0] for word in words if word})))
        self.assertEqual(told[4], tuple(sorted({pair for word in words for pair in zip(word, word[1:])})))
        self.assertEqual(told[5], tuple(sorted({word[-1] for word in words if word})))
        self.assertIs(has_fitting(schema, book, start, end), bool(words))

    def test_by_chance(self):
        chance = by_chance(14)
        for _ in range(250):
            book = some_book(PAIR, chance, chance.sample(range(6), 4))
            for start in range(2):
                for end in range(2):
                    # A pair of 4 letters stands in a word of at most 8, if in any.
                    self.check(PAIR, book, start, end, 8)

    def test_empty_word(self):
        stay = book_of(TOWN, ("stay",))
        self.assertEqual(trimmed(TOWN, stay, 0, 0), ("book", 1, (), (), (), ()))
        self.assertEqual(trimmed(TOWN, stay, 2, 2), ("book", 1, (), (), (), ()))
        self.assertEqual(trimmed(TOWN, stay, 0, 1), NOTHING)
        self.assertIs(has_fitting(TOWN, stay, 1, 1), True)
        self.assertIs(has_fitting(TOWN, stay, 1, 0), False)
        star = book_of(TOWN, ("star", step(1)))
        self.assertEqual(trimmed(TOWN, star, 0, 0), ("book", 1, (), (), (), ()))
        self.assertEqual(trimmed(TOWN, star, 0, 1), ("book", 0, ((1, 0),), (1,), (), (1,)))
        self.assertEqual(trimmed(TOWN, star, 1, 0), NOTHING)

    def test_no_fitting_word(self):
        book = book_of(TOWN, ("then", step(0), step(1, 1)))
        for start in range(3):
            for end in range(3):
                self.assertEqual(trimmed(TOWN, book, start, end), NOTHING)
                self.assertIs(has_fitting(TOWN, book, start, end), False)
        self.assertIs(has_fitting(TOWN, NOTHING, 0, 0), False)

    def test_labels_that_lead_nowhere(self):
        # From kind 0 over to kind 1, and label 7 to a kind from which nothing leads on.
        book = book_of(TOWN, ("then", ("star", ("either", step(0), step(7))), ("either", step(1), step(2, 1))))
        self.assertEqual(trimmed(TOWN, book, 0, 1), ("book", 0, ((0, 0), (1, 0)), (0, 1), ((0, 0), (0, 1)), (1,)))
        # A label that is a letter, but stands in no word.
        book = ("book", 0, ((0, 0), (1, 0), (3, 0)), (0,), ((0, 0), (0, 3), (3, 3)), (0, 1))
        self.assertEqual(trimmed(TOWN, book, 0, 0), ("book", 0, ((0, 0),), (0,), ((0, 0),), (0,)))

    def test_marks_fit_their_kind(self):
        book = book_of(TOWN, ("then", ("either", step(4), step(5)), step(1)))
        self.assertEqual(trimmed(TOWN, book, 0, 1), ("book", 0, ((1, 0), (4, 0)), (4,), ((4, 1),), (1,)))
        self.assertIs(has_fitting(TOWN, book, 1, 1), False)
        self.assertIs(has_fitting(FLAT, book_of(FLAT, step(3)), 0, 0), True)


if __name__ == "__main__":
    unittest.main()
