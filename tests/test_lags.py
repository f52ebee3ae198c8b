"""Lags: [30]."""

import unittest

from edgesaway.answers import distance_of
from edgesaway.balls import ball
from edgesaway.lags import counts_between, told_word, told_words
from tests.asking import SMALL, asked, rows_told, some_question, table_told, unknown, way
from tests.reckon import step
from tests.support import PAIR, TOWN, by_chance, some_graph
from tests.test_answers import PRICED, F, P, Q, R

GRAPH = ((0, 0, 1), (0, 1, 1), (0, 3, 1))


class Words(unittest.TestCase):
    def test_around_the_distance(self):
        for body, distance, truth in ((P, 1, "yes"), (Q, 2, "yes"), (R, 3, "no"), (("or", (P, Q)), 3, "yes")):
            for lag, told in ((distance - 1, truth), (distance, "open"), (distance + 1, "open"), (1000, "open"), (0, truth)):
                self.assertEqual(told_word(PRICED, GRAPH, asked(body), (), lag), told, (body, lag))

    def test_a_distance_of_none(self):
        for body, truth in ((F, "yes"), (("not", F), "no"), (("or", (P, F)), "yes")):
            for lag in (0, 1, 1000):
                self.assertEqual(told_word(PRICED, GRAPH, asked(body), (), lag), truth)

    def test_table(self):
        question = asked(way(("star", step(1)), unknown(0), unknown(1)), 0, 0)
        rows = ((0, 0), (0, 1), (1, 0), (1, 1))
        for lag, words in (
            (0, ("yes", "yes", "no", "yes")), (1, ("yes", "yes", "no", "yes")), (2, ("yes", "open", "open", "yes")),
            (1000, ("yes", "open", "open", "yes")),
        ):
            self.assertEqual(told_words(PRICED, GRAPH, question, lag), tuple(zip(rows, words)))
            self.assertEqual(counts_between(PRICED, GRAPH, question, lag), (3, 3) if lag < 2 else (2, 4))

    def test_no_unknown(self):
        for body, lag, word, counts in (
            (P, 0, "yes", (1, 1)), (P, 1, "open", (0, 1)), (R, 2, "no", (0, 0)), (R, 3, "open", (0, 1)),
        ):
            self.assertEqual(told_words(PRICED, GRAPH, asked(body), lag), (((), word),))
            self.assertEqual(counts_between(PRICED, GRAPH, asked(body), lag), counts)

    def test_a_kind_without_nodes(self):
        question = asked(way(step(7), unknown(0), unknown(1)), 0, 2)
        self.assertEqual(told_words(TOWN, (), question, 3), ())
        self.assertEqual(counts_between(TOWN, (), question, 3), (0, 0))

    def test_against_balls(self):
        chance = by_chance(121)
        seen = set()
        for _ in range(40):
            graph = some_graph(SMALL, chance, chance.randrange(8))
            question = some_question(SMALL, chance)
            rows = rows_told(SMALL, question)
            for lag in (0, 1, 2, 3):
                tables = [table_told(SMALL, other, question) for _, other in ball(SMALL, graph, lag)]
                words = []
                for row in rows:
                    held = {row in table for table in tables}
                    words.append("open" if len(held) == 2 else "yes" if held == {True} else "no")
                seen.update(words)
                self.assertEqual(told_words(SMALL, graph, question, lag), tuple(zip(rows, words)))
                for row, word in zip(rows, words):
                    self.assertEqual(told_word(SMALL, graph, question, row, lag), word)
                least, most = counts_between(SMALL, graph, question, lag)
                self.assertEqual((least, most), (words.count("yes"), len(words) - words.count("no")))
                self.assertLessEqual(least, min(len(table) for table in tables))
                self.assertGreaterEqual(most, max(len(table) for table in tables))
        self.assertEqual(seen, {"yes", "no", "open"})

    def test_by_distances(self):
        chance = by_chance(122)
        for _ in range(60):
            schema = chance.choice((PAIR, TOWN))
            graph = some_graph(schema, chance, chance.randrange(10))
            question = some_question(schema, chance)
            table = table_told(schema, graph, question)
            for lag in (0, 1, 2, 4, 7):
                for row, word in told_words(schema, graph, question, lag):
                    price = distance_of(schema, graph, question, row)
                    sure = price is None or lag < price
                    self.assertEqual(word, ("yes" if row in table else "no") if sure else "open")


if __name__ == "__main__":
    unittest.main()
