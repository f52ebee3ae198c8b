"""Papers of both answers: [17] to [22], [24]."""

import unittest

from edgesaway.balls import ball
from edgesaway.books import book_of
from edgesaway.errors import TooMany
from edgesaway.graphs import changed
from edgesaway.meaning import joined
from edgesaway.papers import judge_paper, paper_of, paper_price, paper_turning, plain_distance
from tests.reckon import any_paper, cut_told, other_paper, paper_right, price_at, step
from tests.support import FLAT, PAIR, TOWN, by_chance, raised, some_book, some_graph
from tests.test_flows import DOC, DOC_BOOK, DOC_GRAPH, RAIL, ROADS

# Two kinds of few nodes, so that balls are small.
SMALL = ("schema", (("n", 2), ("m", 1)), (
    ("p", 0, 0, 1, "many"), ("q", 0, 0, 2, "single"), ("u", 0, 1, 1, "single"), ("f", 0, 0, 0, "many"),
    ("k", 0, 0, 2, "mark"),
))


def some_case(chance):
    schema = chance.choice((FLAT, PAIR, TOWN, SMALL))
    graph = some_graph(schema, chance, chance.randrange(10))
    book = some_book(schema, chance, range(len(schema[2])))
    return schema, graph, book, chance.randrange(3), chance.randrange(3)


class Papers(unittest.TestCase):
    def test_example(self):
        for paper, x, y in ((("flow", 5, (ROADS, RAIL), ()), 0, 2), (("gap", 2, (), ((2, 0, 0),)), 2, 0)):
            self.assertIs(judge_paper(DOC, DOC_GRAPH, DOC_BOOK, x, y, paper), True)
            self.assertIs(judge_paper(DOC, DOC_GRAPH, DOC_BOOK, y, x, paper), False)
            told = paper_of(DOC, DOC_GRAPH, DOC_BOOK, x, y)
            self.assertEqual((told[0], paper_price(told)), paper[:2])
            self.assertEqual(paper_price(paper), paper[1])

    def test_four_forms(self):
        star = book_of(FLAT, ("star", ("either", step(0), step(2))))
        firm = book_of(FLAT, ("star", step(2)))
        graph = ((0, 2, 1), (1, 0, 2))
        for book, x, y, word in ((star, 0, 1, "sure"), (star, 0, 2, "flow"), (star, 2, 0, "gap"), (firm, 0, 2, "never")):
            paper = paper_of(FLAT, graph, book, x, y)
            self.assertEqual(paper[0], word)
            self.assertIs(judge_paper(FLAT, graph, book, x, y, paper), True)
            self.assertEqual(paper_price(paper), 1 if word in ("flow", "gap") else None)
            for other in ("", "other", "Flow", "answer"):
                self.assertIs(judge_paper(FLAT, graph, book, x, y, (other, *paper[1:])), False)
            self.assertIs(judge_paper(FLAT, graph, book, x, y, ("other",)), False)

    def test_exactly_one_of_four_kinds(self):
        # A no is no paper for a yes, and the other way round; nor is what can never be otherwise one for what can.
        star = book_of(FLAT, ("star", ("either", step(0), step(2))))
        graph = ((0, 2, 1), (1, 0, 2))
        papers = (("sure", ((0, 2, 1),)), ("sure", ()), ("never", ()), ("gap", 1, (), ((2, 0, 0),)), ("flow", 1, (), ()))
        self.assertIs(judge_paper(FLAT, graph, star, 0, 1, papers[0]), True)
        self.assertIs(judge_paper(FLAT, graph, star, 2, 0, papers[3]), True)
        for paper in papers:
            self.assertIs(judge_paper(FLAT, graph, star, 0, 2, paper), False)

    def test_by_chance(self):
        chance = by_chance(81)
        found = {}
        for _ in range(300):
            schema, graph, book, x, y = some_case(chance)
            paper = paper_of(schema, graph, book, x, y)
            found[paper[0]] = found.get(paper[0], 0) + 1
            self.assertEqual(paper[0] in ("sure", "flow"), joined(schema, graph, book, x, y))
            self.assertTrue(paper_right(schema, graph, book, x, y, paper), paper)
            self.assertIs(judge_paper(schema, graph, book, x, y, paper), True)
            tried = [other_paper(chance, schema, book, paper) for _ in range(5)]
            tried += [any_paper(chance, word) for word in ("sure", "flow", "never", "gap")]
            for other in tried:
                told = paper_right(schema, graph, book, x, y, other)
                self.assertIs(judge_paper(schema, graph, book, x, y, other), told, (graph, book, x, y, other))
                if told:
                    self.assertEqual(paper_price(other), paper_price(paper))
        self.assertGreater(min(found.values()), 10, found)
        self.assertEqual(len(found), 4)


class Turnings(unittest.TestCase):
    def test_flow(self):
        paper = ("flow", 5, (ROADS, RAIL), ())
        told = (("take", 0, 0, 1), ("take", 0, 1, 2))
        self.assertEqual(paper_turning(DOC, DOC_GRAPH, DOC_BOOK, 0, 2, paper), told)
        told = (("take", 0, 1, 2), ("take", 1, 0, 2))
        self.assertEqual(paper_turning(DOC, DOC_GRAPH, DOC_BOOK, 0, 2, (*paper[:3], ((1, 0),))), told)

    def test_gap(self):
        paper = ("gap", 2, (), ((2, 0, 0),))
        self.assertEqual(paper_turning(DOC, DOC_GRAPH, DOC_BOOK, 2, 0, paper), (("put", 2, 0, 0),))

    def test_takes_ahead_of_puts(self):
        # The way goes by 4 from node 2 down to 0, so that neither takes nor puts ascend along it.
        graph = ((1, 6, 2), (2, 6, 2))
        book = book_of(TOWN, ("then", step(0), ("then", step(6), step(4))))
        paper = ("gap", 13, (), ((2, 0, 1), (1, 6, 0), (0, 4, 0)))
        told = (("take", 1, 6, 2), ("put", 0, 4, 0), ("put", 1, 6, 0), ("put", 2, 0, 1))
        self.assertEqual(paper_turning(TOWN, graph, book, 2, 0, paper), told)
        book = book_of(TOWN, ("plus", step(6)))
        way = ((2, 6, 1), (1, 6, 0))
        told = (("take", 1, 6, 2), ("take", 2, 6, 2), ("put", 1, 6, 0), ("put", 2, 6, 1))
        self.assertEqual(paper_turning(TOWN, graph, book, 2, 0, ("gap", 20, (), way)), told)

    def test_edges_there_stay(self):
        book = book_of(TOWN, ("then", step(6), ("then", step(0), step(2))))
        paper = ("gap", 1, (), ((0, 6, 1), (1, 0, 2), (2, 2, 4)))
        graph = ((0, 6, 1), (1, 0, 2))
        self.assertEqual(paper_turning(TOWN, graph, book, 0, 4, paper), (("put", 2, 2, 4),))

    def test_none(self):
        for paper in (("sure", ()), ("never", ())):
            self.assertIsNone(paper_turning(DOC, (), DOC_BOOK, 0, 0, paper))

    def test_by_chance(self):
        chance = by_chance(82)
        many = 0
        for _ in range(300):
            schema, graph, book, x, y = some_case(chance)
            paper = paper_of(schema, graph, book, x, y)
            changes = paper_turning(schema, graph, book, x, y, paper)
            if paper[0] in ("sure", "never"):
                self.assertIsNone(changes)
                continue
            many += 1
            behind = changed(schema, graph, changes)
            self.assertEqual(sum(price_at(schema, change[2]) for change in changes), paper[1])
            self.assertIs(joined(schema, behind, book, x, y), paper[0] == "gap")
            if paper[0] == "flow":
                cut = cut_told(graph, book, x, paper[3])
                self.assertEqual(changes, tuple(("take", *edge) for edge in cut))
            else:
                takes = [change for change in changes if change[0] == "take"]
                puts = [change for change in changes if change[0] == "put"]
                self.assertEqual(list(changes), sorted(takes) + sorted(puts))
                self.assertEqual([change[1:] for change in puts], sorted(e for e in paper[3] if e not in graph))
        self.assertGreater(many, 100)


class Plain(unittest.TestCase):
    def test_below_at_and_above(self):
        for most, told in ((0, None), (4, None), (5, 5), (6, 5)):
            self.assertEqual(plain_distance(DOC, DOC_GRAPH, DOC_BOOK, 0, 2, most), told)
        for most, told in ((0, None), (1, None), (2, 2), (3, 2), (5, 2)):
            self.assertEqual(plain_distance(DOC, DOC_GRAPH, DOC_BOOK, 2, 0, most), told)

    def test_never_otherwise(self):
        book = book_of(SMALL, ("star", step(3)))
        for most in (0, 3):
            self.assertIsNone(plain_distance(SMALL, (), book, 0, 1, most))
            self.assertIsNone(plain_distance(SMALL, (), book, 0, 0, most))

    def test_too_many(self):
        wide = ("schema", (("n", 5),), (("p", 0, 0, 1, "many"),))
        book = book_of(wide, ("star", step(0)))
        # 1 + 25 + 300 graphs within 2, and 2300 more within 3.
        self.assertEqual(plain_distance(wide, (), book, 0, 1, 2), 1)
        self.assertEqual(raised(TooMany, ball, wide, (), 3).part, "ball")
        # It is raised also where the distance is found within less, or is None.
        self.assertEqual(raised(TooMany, plain_distance, wide, (), book, 0, 1, 3).part, "ball")
        self.assertEqual(raised(TooMany, plain_distance, wide, (), book, 1, 1, 3).part, "ball")

    def test_by_chance(self):
        chance = by_chance(83)
        prices = set()
        for _ in range(150):
            graph = some_graph(SMALL, chance, chance.randrange(8))
            book = some_book(SMALL, chance, range(5))
            x, y = chance.randrange(2), chance.randrange(3)
            price = paper_price(paper_of(SMALL, graph, book, x, y))
            for most in (0, 1, 2, 3, 4):
                told = plain_distance(SMALL, graph, book, x, y, most)
                self.assertEqual(told, price if price is not None and price <= most else None)
                prices.add(told)
        self.assertLessEqual({1, 2, 3, 4, None}, prices)


if __name__ == "__main__":
    unittest.main()
