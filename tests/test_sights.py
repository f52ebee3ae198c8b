"""Questions through sights: [26] to [30], [58], [59]."""

import unittest

from edgesaway.answers import distance_of, judge_answer
from edgesaway.errors import Unseen
from edgesaway.lags import told_word
from edgesaway.sights import seen_answer, seen_distance, seen_rows, seen_table, seen_turning, seen_word
from edgesaway.turnings import judge_turning
from tests.asking import asked, node, rows_told, some_question, table_told, truth_told, unknown, way
from tests.reckon import step
from tests.seen import Numbers, sees, some_sight, whole_body
from tests.support import FLAT, PAIR, TOWN, all_edges, by_chance, fits_rules, raised, some_graph

# Everything but node a#1, label road and what only it could use.
SIGHT = ("sight", (1, 2, 3), (0, 2, 3, 4))
GRAPH = ((0, 1, 3), (0, 2, 4), (0, 3, 1), (0, 3, 2), (1, 3, 2), (2, 1, 3), (2, 1, 4))


class Seen(unittest.TestCase):
    def test_tables(self):
        question = asked(way(("then", ("plus", step(3)), step(1)), unknown(0), unknown(1)), 0, 1)
        self.assertEqual(seen_table(TOWN, SIGHT, GRAPH, question), ((0, 3), (0, 4)))
        self.assertEqual(seen_rows(TOWN, SIGHT, question), ((0, 3), (0, 4), (2, 3), (2, 4)))
        # The way over the node that is not seen is none.
        around = ("sight", (0, 3), (0, 2))
        graph = ((0, 0, 1), (1, 0, 2), (2, 3, 2))
        question = asked(way(("star", step(0)), unknown(0), node(2)), 0)
        self.assertEqual(seen_table(TOWN, around, graph, question), ((2,),))

    def test_no_unknown_and_no_rows(self):
        question = asked(way(step(1), node(2), node(4)))
        self.assertEqual(seen_table(TOWN, SIGHT, GRAPH, question), ((),))
        self.assertEqual(seen_rows(TOWN, SIGHT, question), ((),))
        few = ("sight", (0,), (0, 1))
        question = asked(way(step(0), unknown(0), unknown(1)), 0, 1)
        self.assertEqual((seen_rows(TOWN, few, question), seen_table(TOWN, few, (), question)), ((), ()))

    def test_distances_and_words(self):
        question = asked(way(("either", step(1), step(2)), unknown(0), unknown(1)), 0, 1)
        for row, truth, far in (((0, 3), "yes", 3), ((0, 4), "yes", 1), ((2, 3), "yes", 3), ((2, 4), "yes", 3)):
            self.assertEqual(seen_distance(TOWN, SIGHT, GRAPH, question, row), far)
            for lag in (far - 1, far, far + 1):
                told = truth if lag < far else "open"
                self.assertEqual(seen_word(TOWN, SIGHT, GRAPH, question, row, lag), told)
        # A missing edge of a single label for which another one has to go.
        self.assertEqual(seen_distance(TOWN, SIGHT, GRAPH, asked(way(step(2), node(0), node(3))), ()), 2)
        self.assertEqual(seen_turning(TOWN, SIGHT, GRAPH, asked(way(step(2), node(0), node(3))), ()),
                         (("take", 0, 2, 4), ("put", 0, 2, 3)))
        firm = asked(way(step(3), node(0), node(2)))
        self.assertIsNone(seen_distance(TOWN, SIGHT, GRAPH, firm, ()))
        self.assertIsNone(seen_turning(TOWN, SIGHT, GRAPH, firm, ()))
        self.assertEqual(seen_word(TOWN, SIGHT, GRAPH, firm, (), 1000), "yes")

    def test_numbers_of_the_whole(self):
        self.assertEqual(seen_answer(TOWN, SIGHT, GRAPH, asked(way(step(3), node(0), node(2))), ()),
                         ("answer", "yes", None, (("sure", ((0, 3, 2),)),)))
        self.assertEqual(seen_answer(TOWN, SIGHT, GRAPH, asked(way(step(1), node(2), node(4))), ()),
                         ("answer", "yes", 3, (("flow", 3, ((3, ((2, 1, 4),)),), ((3, 1),)),)))
        word, truth, price, papers = seen_answer(TOWN, SIGHT, GRAPH, asked(way(step(3), node(2), node(0))), ())
        self.assertEqual((word, truth, price, papers), ("answer", "no", None, (("never", ()),)))
        firm = asked(way(("then", step(3), step(2)), node(0), node(3)))
        self.assertEqual(seen_answer(TOWN, SIGHT, GRAPH, firm, ()),
                         ("answer", "no", 1, (("gap", 1, ((2, 3, 0),), ((0, 3, 2), (2, 2, 3))),)))

    def test_unseen(self):
        question = asked(way(step(3), unknown(0), node(1)), 0)
        for call, *things in (
            (seen_table, GRAPH), (seen_distance, GRAPH), (seen_word, GRAPH), (seen_answer, GRAPH), (seen_turning, GRAPH),
            (seen_rows,),
        ):
            rows = {seen_table: (), seen_rows: (), seen_word: ((0,), 3)}.get(call, ((0,),))
            for asks, name in ((question, "a#1"), (asked(way(step(0), unknown(0), node(1)), 0), "road")):
                self.assertEqual(raised(Unseen, call, TOWN, SIGHT, *things, asks, *rows).name, name)


class ByChance(unittest.TestCase):
    def test_as_in_the_part(self):
        chance = by_chance(591)
        kinds = set()
        turned = 0
        for _ in range(120):
            schema = chance.choice((FLAT, PAIR, TOWN))
            sight = some_sight(schema, chance)
            numbers = Numbers(schema, sight)
            part = numbers.part
            if not sight[2]:
                continue
            small_question = some_question(part, chance)
            question = (*small_question[:2], whole_body(numbers, small_question[2]))
            graph = some_graph(schema, chance, chance.randrange(14))
            small = numbers.graph(graph)
            rows = [tuple(sight[2][at] for at in row) for row in rows_told(part, small_question)]
            self.assertEqual(seen_rows(schema, sight, question), tuple(rows))
            table = tuple(tuple(sight[2][at] for at in row) for row in table_told(part, small, small_question))
            self.assertEqual(seen_table(schema, sight, graph, question), table)
            for row in rows[:6]:
                small_row = numbers.row(row)
                far = distance_of(part, small, small_question, small_row)
                lag = chance.randrange(6)
                self.assertEqual(seen_distance(schema, sight, graph, question, row), far)
                self.assertEqual(seen_word(schema, sight, graph, question, row, lag),
                                 told_word(part, small, small_question, small_row, lag))
                answer = seen_answer(schema, sight, graph, question, row)
                self.assertTrue(judge_answer(part, small, small_question, small_row, numbers.answer(answer)))
                self.assertEqual(answer[1:3], (truth_told(part, small, small_question, small_row), far))
                kinds.update(paper[0] for paper in answer[3])
                changes = seen_turning(schema, sight, graph, question, row)
                if far is None:
                    self.assertIsNone(changes)
                else:
                    turned += 1
                    self.assertTrue(judge_turning(part, small, small_question, small_row, numbers.changes(changes)))
        self.assertEqual(kinds, {"sure", "flow", "never", "gap"})
        self.assertGreater(turned, 60)

    def test_nothing_comes_from_what_is_not_seen(self):
        chance = by_chance(592)
        others = 0
        for _ in range(60):
            schema = chance.choice((FLAT, PAIR, TOWN))
            sight = some_sight(schema, chance)
            numbers = Numbers(schema, sight)
            if not sight[2]:
                continue
            small_question = some_question(numbers.part, chance)
            question = (*small_question[:2], whole_body(numbers, small_question[2]))
            graph = some_graph(schema, chance, 12)
            other = [edge for edge in graph if sees(sight, edge)]
            hidden = [edge for edge in all_edges(schema) if not sees(sight, edge)]
            for edge in chance.sample(hidden, min(len(hidden), 6)):
                if fits_rules(schema, [*other, edge]):
                    other.append(edge)
            other = tuple(sorted(other))
            others += other != graph
            self.assertEqual(*[seen_table(schema, sight, edges, question) for edges in (graph, other)])
            for row in seen_rows(schema, sight, question)[:4]:
                for call in (seen_distance, seen_answer, seen_turning):
                    self.assertEqual(*[call(schema, sight, edges, question, row) for edges in (graph, other)])
                self.assertEqual(*[seen_word(schema, sight, edges, question, row, 2) for edges in (graph, other)])
        self.assertGreater(others, 40)


if __name__ == "__main__":
    unittest.main()
