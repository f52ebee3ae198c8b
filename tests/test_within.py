"""Books within one another, and partings: [13]."""

import itertools
import unittest

from edgesaway.books import book_of, meet
from edgesaway.graphs import is_graph
from edgesaway.meaning import joined, letter_ends
from edgesaway.within import alike, parting, within
from tests.support import FLAT, PAIR, book_pairs, by_chance, nodes_at, some_book, some_expression, some_graph
from tests.test_frames import either, row, step

# One kind; two labels that are walked, one of them single, and a mark.
TINY = ("schema", (("n", 1),), (("p", 0, 0, 1, "many"), ("q", 0, 0, 1, "single"), ("k", 0, 0, 1, "mark")))
# Two kinds and a label over, a label at home, and a mark at each kind.
OVER = (
    "schema",
    (("s", 1), ("t", 1)),
    (("p", 0, 0, 1, "many"), ("u", 0, 1, 1, "many"), ("k", 0, 0, 1, "mark"), ("l", 1, 1, 1, "mark")),
)


def marks_at(schema, kind):
    return [label for label, (_, source, _, _, rule) in enumerate(schema[2]) if rule == "mark" and source == kind]


def subsets(things):
    return [part for many in range(len(things) + 1) for part in itertools.combinations(things, many)]


def lines(schema, start, end, steps):
    """All lines with so many steps between two kinds: graphs whose nodes are numbered along the line."""
    letters = [
        (label, back) for label, (*_, rule) in enumerate(schema[2]) if rule != "mark" for back in range(2)
    ]
    for walked in itertools.product(letters, repeat=steps):
        kinds = [start]
        for letter in walked:
            begin, after = letter_ends(schema, letter)
            kinds.append(after if begin == kinds[-1] else None)
        if None in kinds or kinds[-1] != end:
            continue
        edges = [(at + 1, label, at) if back else (at, label, at + 1) for at, (label, back) in enumerate(walked)]
        places = [(x, label) for x, label, _ in edges if schema[2][label][4] == "single"]
        if len(set(places)) < len(places):
            continue
        for marks in itertools.product(*[subsets(marks_at(schema, kind)) for kind in kinds]):
            yield [*edges, *[(at, mark, at) for at, some in enumerate(marks) for mark in some]]


class Partings(unittest.TestCase):
    def check_line(self, schema, book, other, start, end, told):
        """That a parting is right by itself; tells the number of its steps."""
        word, sizes, graph, x, y = told
        self.assertEqual(word, "parting")
        self.assertEqual(len(sizes), len(schema[1]))
        sized = ("schema", tuple((name, many) for (name, _), many in zip(schema[1], sizes)), schema[2])
        many = sum(sizes)
        self.assertLessEqual(many, 24)
        self.assertIs(is_graph(sized, graph), True)
        steps = [edge for edge in graph if schema[2][edge[1]][4] != "mark"]
        self.assertEqual(len(steps), many - 1)
        self.assertIn(x, nodes_at(sized, start))
        self.assertIn(y, nodes_at(sized, end))
        # The edges make one row from x to y through all nodes.
        place, row_of_nodes = x, [x]
        while place != y:
            ahead = [{v, w} - {place} for v, _, w in steps if place in (v, w)]
            ahead = [node for (node,) in ahead if node not in row_of_nodes]
            self.assertEqual(len(ahead), 1)
            place = ahead[0]
            row_of_nodes.append(place)
        self.assertEqual(sorted(row_of_nodes), list(range(many)))
        self.assertIs(joined(sized, graph, book, x, y), True)
        self.assertIs(joined(sized, graph, other, x, y), False)
        self.assertIn((x, y), book_pairs(book, graph, range(many)))
        self.assertNotIn((x, y), book_pairs(other, graph, range(many)))
        return many - 1

    def parted(self, schema, book, other, start, end, steps):
        """Whether some line with so many steps is joined by the one book and not by the other one."""
        for graph in lines(schema, start, end, steps):
            nodes = range(steps + 1)
            if (0, steps) in book_pairs(book, graph, nodes) and (0, steps) not in book_pairs(other, graph, nodes):
                return True
        return False

    def check(self, schema, book, other, start, end, most):
        told = parting(schema, book, other, start, end)
        self.assertIs(within(schema, book, other, start, end), told is None)
        many = most if told is None else self.check_line(schema, book, other, start, end, told) - 1
        for steps in range(min(many, most) + 1):
            self.assertFalse(self.parted(schema, book, other, start, end, steps), (book, other, steps, told))
        back = within(schema, other, book, start, end)
        self.assertIs(alike(schema, book, other, start, end), told is None and back)
        return told

    def test_by_all_lines(self):
        chance = by_chance(17)
        found = 0
        for _ in range(60):
            one, two = (some_book(TINY, chance, range(3)) for _ in range(2))
            found += self.check(TINY, one, two, 0, 0, 3) is None
            two = meet(one, two) if chance.random() < 0.5 else two
            found += self.check(TINY, one, two, 0, 0, 2) is None
        self.assertGreater(found, 10)

    def test_by_all_lines_of_two_kinds(self):
        chance = by_chance(18)
        for _ in range(40):
            one, two = (some_book(OVER, chance, range(4)) for _ in range(2))
            for start in range(2):
                for end in range(2):
                    self.check(OVER, one, two, start, end, 2)

    def test_expressions(self):
        chance = by_chance(19)
        for _ in range(200):
            one, two = (book_of(PAIR, some_expression(PAIR, chance, list(range(6)), 3)) for _ in range(2))
            for start in range(2):
                for end in range(2):
                    told = parting(PAIR, one, two, start, end)
                    if told is not None:
                        self.check_line(PAIR, one, two, start, end, told)

    def test_in_graphs(self):
        chance = by_chance(20)
        inside = 0
        while inside < 60:
            one, two = (some_book(FLAT, chance, range(6)) for _ in range(2))
            if chance.random() < 0.5:
                one = meet(one, two)
            if within(FLAT, one, two, 0, 0):
                inside += 1
                for _ in range(5):
                    graph = some_graph(FLAT, chance, 14)
                    self.assertLessEqual(book_pairs(one, graph, range(3)), book_pairs(two, graph, range(3)))

    def test_within_itself_and_meets(self):
        chance = by_chance(21)
        for _ in range(80):
            one, two = (some_book(PAIR, chance, range(6)) for _ in range(2))
            for start in range(2):
                for end in range(2):
                    self.assertIs(within(PAIR, one, one, start, end), True)
                    self.assertIs(alike(PAIR, one, one, start, end), True)
                    self.assertIsNone(parting(PAIR, one, one, start, end))
                    both = meet(one, two)
                    self.assertIs(within(PAIR, both, one, start, end), True)
                    self.assertIs(within(PAIR, both, two, start, end), True)

    def book(self, expression):
        return book_of(FLAT, expression)

    def test_marks(self):
        plain = self.book(row(step(0), step(1)))
        perhaps = self.book(row(step(0), ("maybe", step(3)), step(1)))
        needed = self.book(row(step(0), step(3), step(1)))
        more = self.book(row(step(0), step(4), step(3), step(1)))
        turned = self.book(row(step(0), step(3), step(4), step(1)))
        self.assertIs(alike(FLAT, plain, perhaps, 0, 0), True)
        self.assertIs(within(FLAT, needed, plain, 0, 0), True)
        self.assertIs(within(FLAT, more, needed, 0, 0), True)
        self.assertIs(alike(FLAT, more, turned, 0, 0), True)
        self.assertEqual(parting(FLAT, plain, needed, 0, 0), ("parting", (3,), ((0, 0, 1), (1, 1, 2)), 0, 2))
        told = ("parting", (3,), ((0, 0, 1), (1, 1, 2), (1, 3, 1)), 0, 2)
        self.assertEqual(parting(FLAT, needed, more, 0, 0), told)
        one_of = self.book(row(step(0), either(step(3), step(4)), step(1)))
        self.assertIs(within(FLAT, needed, one_of, 0, 0), True)
        self.assertEqual(parting(FLAT, one_of, needed, 0, 0)[2], ((0, 0, 1), (1, 1, 2), (1, 4, 1)))

    def test_lines_without_a_step(self):
        stay, mark = self.book(("stay",)), self.book(step(3))
        self.assertEqual(parting(FLAT, stay, mark, 0, 0), ("parting", (1,), (), 0, 0))
        self.assertEqual(parting(FLAT, mark, self.book(step(4)), 0, 0), ("parting", (1,), ((0, 3, 0),), 0, 0))
        self.assertIs(within(FLAT, mark, stay, 0, 0), True)
        star, plus = self.book(("star", step(0))), self.book(("plus", step(0)))
        self.assertEqual(parting(FLAT, star, plus, 0, 0), ("parting", (1,), (), 0, 0))
        self.assertIs(within(FLAT, plus, star, 0, 0), True)
        both = self.book(row(step(5), step(3)))
        self.assertEqual(parting(FLAT, both, self.book(step(4)), 0, 0)[2], ((0, 3, 0), (0, 5, 0)))

    def test_several_steps(self):
        star, maybe = self.book(("star", step(0))), self.book(("maybe", step(0)))
        self.assertEqual(parting(FLAT, star, maybe, 0, 0), ("parting", (3,), ((0, 0, 1), (1, 0, 2)), 0, 2))
        back = self.book(("star", step(0, 1)))
        self.assertEqual(parting(FLAT, back, star, 0, 0), ("parting", (2,), ((1, 0, 0),), 0, 1))
        # The one lets a second r only, so the shortest line has p, q, r and r.
        one = self.book(row(step(0), step(1), ("plus", step(2))))
        two = self.book(row(step(0), step(1), step(2)))
        told = ("parting", (5,), ((0, 0, 1), (1, 1, 2), (2, 2, 3), (3, 2, 4)), 0, 4)
        self.assertEqual(parting(FLAT, one, two, 0, 0), told)

    def test_single_labels(self):
        one = self.book(("plus", step(1)))
        two = self.book(("plus", step(1, 1)))
        self.assertEqual(parting(FLAT, one, two, 0, 0), ("parting", (2,), ((0, 1, 1),), 0, 1))
        self.assertEqual(parting(FLAT, two, one, 0, 0), ("parting", (2,), ((1, 1, 0),), 0, 1))

    def test_nothing_fits(self):
        nothing = ("book", 0, (), (), (), ())
        over = book_of(PAIR, step(2))
        self.assertIs(within(PAIR, nothing, over, 0, 1), True)
        self.assertIs(within(PAIR, over, nothing, 0, 0), True)
        self.assertEqual(parting(PAIR, over, nothing, 0, 1), ("parting", (1, 1), ((0, 2, 1),), 0, 1))
        self.assertIs(alike(PAIR, over, book_of(PAIR, step(3)), 1, 1), True)
        self.assertIs(alike(PAIR, over, nothing, 0, 1), False)

    def test_the_longest_lines(self):
        labels = tuple((f"l{n}", 0, 0, 1, "many") for n in range(8))
        schema = ("schema", (("n", 1),), labels)
        letters = tuple((n, 0) for n in range(8))
        pairs = tuple(sorted([(n, n + 1) for n in range(7)] + [(7, 0)]))
        circle = ("book", 0, letters, (0,), pairs, (7,))
        cut = ("book", 0, letters, (0,), pairs[:-1], (7,))
        told = parting(schema, circle, cut, 0, 0)
        self.assertEqual(self.check_line(schema, circle, cut, 0, 0, told), 16)

    def test_number_of_nodes_does_not_matter(self):
        for many in (0, 1, 24):
            schema = ("schema", (("n", many),), FLAT[2])
            one, two = self.book(("star", step(0))), self.book(("maybe", step(0)))
            self.assertEqual(parting(schema, one, two, 0, 0)[1], (3,))


if __name__ == "__main__":
    unittest.main()
