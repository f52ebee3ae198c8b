"""Answers: [26] to [28]."""

import itertools
import unittest

from edgesaway.answers import answer_of, combined_price, distance_of, judge_answer
from edgesaway.books import book_of
from edgesaway.papers import judge_paper, paper_of
from edgesaway.truths import combined, truth_of
from tests.asking import SMALL, asked, distances_within, node, node_at, rows_told, some_question, unknown, way, ways_told
from tests.reckon import paper_right, step
from tests.support import FLAT, PAIR, TOWN, by_chance, some_graph

WAYS = tuple(way(step(label), node(0), node(0)) for label in range(8))
# Labels 0 to 3 with the prices 1, 2, 3 and firm.
PRICED = ("schema", (("n", 2),), (
    ("p", 0, 0, 1, "many"), ("q", 0, 0, 2, "many"), ("r", 0, 0, 3, "many"), ("f", 0, 0, 0, "many"),
))
P, Q, R, F = (way(step(label), node(0), node(1)) for label in range(4))


def price_told(body, truths, prices):
    """The pair of the truth and the distance of a body [27]; truths and prices are lists that are used up."""
    if body[0] == "way":
        return truths.pop(0) == "yes", prices.pop(0)
    parts = [price_told(part, truths, prices) for part in (body[1:] if body[0] == "not" else body[1])]
    if body[0] == "not":
        return not parts[0][0], parts[0][1]
    held = [price for truth, price in parts if truth]
    not_held = [price for truth, price in parts if not truth]
    truth = not not_held if body[0] == "and" else bool(held)
    if truth == (body[0] == "and"):
        return truth, min([price for _, price in parts if price is not None], default=None)
    summed = not_held if body[0] == "and" else held
    return truth, None if None in summed else sum(summed)


class CombinedPrice(unittest.TestCase):
    def price(self, body, truths, prices):
        told = combined_price(asked(body), truths, prices)
        self.assertEqual(told, price_told(body, list(truths), list(prices))[1])
        return told

    def test_way_and_not(self):
        for truth, price in itertools.product(("yes", "no"), (1, 7, None)):
            for body in (WAYS[0], ("not", WAYS[0]), ("not", ("not", WAYS[0]))):
                self.assertEqual(self.price(body, (truth,), (price,)), price)

    def test_and_that_holds(self):
        body = ("and", WAYS[:3])
        for prices, told in (((3, 2, 5), 2), ((3, None, 5), 3), ((None, None, 4), 4), ((None,) * 3, None)):
            self.assertEqual(self.price(body, ("yes",) * 3, prices), told)

    def test_or_that_does_not_hold(self):
        body = ("or", WAYS[:3])
        for prices, told in (((3, 2, 5), 2), ((3, None, 5), 3), ((None, None, 4), 4), ((None,) * 3, None)):
            self.assertEqual(self.price(body, ("no",) * 3, prices), told)

    def test_and_that_does_not_hold(self):
        body = ("and", WAYS[:3])
        for prices, told in (((3, 2, 5), 8), ((3, 1, 5), 8), ((3, None, 5), 8), ((None, 1, 5), None), ((3, 1, None), None)):
            self.assertEqual(self.price(body, ("no", "yes", "no"), prices), told)
        self.assertEqual(self.price(body, ("no", "yes", "yes"), (4, 1, 1)), 4)
        self.assertEqual(self.price(body, ("no", "no", "no"), (4, 2, 1)), 7)

    def test_or_that_holds(self):
        body = ("or", WAYS[:3])
        for prices, told in (((3, 2, 5), 8), ((3, 1, 5), 8), ((3, None, 5), 8), ((None, 1, 5), None), ((3, 1, None), None)):
            self.assertEqual(self.price(body, ("yes", "no", "yes"), prices), told)
        self.assertEqual(self.price(body, ("no", "no", "yes"), (1, 1, 4)), 4)
        self.assertEqual(self.price(body, ("yes", "yes", "yes"), (4, 2, 1)), 7)

    def test_one_part(self):
        for word, truth, price in itertools.product(("and", "or"), ("yes", "no"), (6, None)):
            self.assertEqual(self.price((word, WAYS[:1]), (truth,), (price,)), price)

    def test_within_one_another(self):
        body = ("and", (("or", (WAYS[0], ("not", WAYS[1]))), ("not", ("and", WAYS[2:4])), WAYS[4]))
        for truths in itertools.product(("yes", "no"), repeat=5):
            for prices in ((1, 2, 3, 4, 5), (5, 4, 3, 2, 1), (None, 2, 3, 4, None), (1, None, 3, None, 5), (None,) * 5):
                self.price(body, truths, prices)

    def test_by_chance(self):
        chance = by_chance(101)
        for _ in range(400):
            question = some_question(PAIR, chance, depth=5)
            many = len(ways_told(question[2]))
            truths = tuple(chance.choice(("yes", "no")) for _ in range(many))
            prices = tuple(chance.choice((1, 2, 3, 5, None)) for _ in range(many))
            self.price(question[2], truths, prices)


class Distances(unittest.TestCase):
    def test_told(self):
        graph = ((0, 0, 1), (0, 1, 1), (0, 3, 1))
        for body, told in (
            (P, 1), (Q, 2), (R, 3), (F, None), (("not", Q), 2), (("and", (P, Q)), 1), (("or", (P, Q)), 3),
            (("and", (P, R)), 3), (("or", (P, R)), 1), (("or", (P, F)), None), (("and", (P, F)), 1),
            (("and", (F,)), None), (("and", (R, ("not", Q))), 5), (("and", (R, ("not", F))), None),
        ):
            self.assertEqual(distance_of(PRICED, graph, asked(body), ()), told, body)

    def test_rows(self):
        question = asked(way(("star", step(1)), unknown(0), unknown(1)), 0, 0)
        told = {(0, 0): None, (0, 1): 2, (1, 0): 2, (1, 1): None}
        for row, price in told.items():
            self.assertEqual(distance_of(PRICED, ((0, 1, 1),), question, row), price)

    def test_against_balls(self):
        chance = by_chance(102)
        seen = set()
        for _ in range(60):
            graph = some_graph(SMALL, chance, chance.randrange(8))
            question = some_question(SMALL, chance)
            for row, told in distances_within(SMALL, graph, question, 4).items():
                price = distance_of(SMALL, graph, question, row)
                self.assertEqual(price if price is not None and price <= 4 else None, told, (graph, question, row))
                seen.add(price)
        self.assertLessEqual({1, 2, 3, None}, seen)


class Answers(unittest.TestCase):
    GRAPH = ((0, 0, 1), (0, 3, 1))
    QUESTION = asked(("or", (P, ("and", (Q, ("not", F))), R)))

    def answer(self):
        return answer_of(PRICED, self.GRAPH, self.QUESTION, ())

    def judge(self, answer):
        return judge_answer(PRICED, self.GRAPH, self.QUESTION, (), answer)

    def test_told(self):
        answer = self.answer()
        self.assertEqual(answer[:3], ("answer", "yes", 1))
        self.assertEqual([paper[0] for paper in answer[3]], ["flow", "gap", "sure", "gap"])
        self.assertIs(self.judge(answer), True)

    def test_what_does_not_follow(self):
        word, truth, price, papers = self.answer()
        for other in (
            ("", truth, price, papers), ("Answer", truth, price, papers), (word, "no", price, papers),
            (word, "open", price, papers), (word, "", price, papers), (word, truth, None, papers),
        ):
            self.assertIs(self.judge(other), False, other)
        for other in (0, 2, -1, 3, 1000000):
            self.assertIs(self.judge((word, truth, other, papers)), False)

    def test_a_price_of_none(self):
        question = asked(("or", (P, F)))
        answer = answer_of(PRICED, self.GRAPH, question, ())
        self.assertEqual(answer[:3], ("answer", "yes", None))
        self.assertIs(judge_answer(PRICED, self.GRAPH, question, (), answer), True)
        for price in (0, 1, 2):
            self.assertIs(judge_answer(PRICED, self.GRAPH, question, (), (*answer[:2], price, answer[3])), False)

    def test_papers_out_of_place(self):
        *head, papers = self.answer()
        for other in (
            papers[:3], papers[1:], (), (*papers, papers[0]), (papers[0], *papers), papers[::-1],
            (papers[1], papers[0], *papers[2:]), (*papers[:2], papers[3], papers[2]), (papers[0],) * 4,
            (*papers[:3], ("never", ())), (*papers[:3], ("sure", ())), (*papers[:3], ("flow", 3, (), ())),
            (*papers[:3], ("other",)), (("gap", *papers[0][1:2], (), ((0, 0, 1),)), *papers[1:]),
        ):
            self.assertIs(self.judge((*head, other)), False, other)

    def test_a_paper_of_another_graph(self):
        *head, papers = self.answer()
        gap = paper_of(PRICED, ((1, 2, 1),), book_of(PRICED, step(2)), 0, 1)
        self.assertIs(self.judge((*head, (*papers[:3], gap))), gap == papers[3])
        self.assertIs(self.judge((*head, (*papers[:3], ("gap", 2, (), ((0, 2, 1),))))), False)

    def test_other_right_papers(self):
        *head, papers = self.answer()
        self.assertIs(self.judge((*head, (("flow", 1, ((1, ((0, 0, 1),)),), ((0, 0),)), *papers[1:]))), True)
        self.assertIs(self.judge((*head, (*papers[:3], ("gap", 3, ((0, 2, 2),), ((0, 2, 1),))))), True)

    def test_by_chance(self):
        chance = by_chance(103)
        for _ in range(120):
            schema = chance.choice((FLAT, PAIR, TOWN))
            graph = some_graph(schema, chance, chance.randrange(10))
            question = some_question(schema, chance)
            rows = rows_told(schema, question)
            for row in rows[:3]:
                answer = answer_of(schema, graph, question, row)
                word, truth, price, papers = answer
                self.assertEqual((word, truth), ("answer", truth_of(schema, graph, question, row)))
                self.assertEqual(price, distance_of(schema, graph, question, row))
                truths = tuple("yes" if paper[0] in ("sure", "flow") else "no" for paper in papers)
                self.assertEqual(combined(question, truths), truth)
                for (_, expression, begin, end), paper in zip(ways_told(question[2]), papers):
                    x, y = node_at(begin, row), node_at(end, row)
                    book = book_of(schema, expression)
                    self.assertTrue(paper_right(schema, graph, book, x, y, paper))
                    self.assertIs(judge_paper(schema, graph, book, x, y, paper), True)
                self.assertIs(judge_answer(schema, graph, question, row, answer), True)
                for other in rows[:3]:
                    if answer_of(schema, graph, question, other)[1:3] != answer[1:3]:
                        self.assertIs(judge_answer(schema, graph, question, other, answer), False)


if __name__ == "__main__":
    unittest.main()
