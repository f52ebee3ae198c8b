"""Deals: [27], [31], [46] to [48]."""

import unittest

from edgesaway.answers import distance_of
from edgesaway.bases import Base
from edgesaway.errors import BadEdge, Ended, Firm, Otherwise, TooLarge
from edgesaway.standings import standing_of
from tests.asking import SMALL, asked, node, unknown, way
from tests.dealt import PlainDeal, do_step, some_step
from tests.reckon import step
from tests.stored import PLAIN, graph_told, some_changes
from tests.support import TOWN, by_chance, raised, some_graph
from tests.test_bases import FULL

GRAPH = ((0, 0, 1), (0, 1, 2), (1, 3, 1))
P = asked(way(step(0), unknown(0), unknown(1)), 0, 0)
R01 = asked(way(step(2), node(0), node(1)))


class Steps(unittest.TestCase):
    def test_its_own_graph(self):
        base = Base(PLAIN, GRAPH)
        deal, other = base.deal(), base.deal()
        self.assertEqual(deal.ask(P), ((0, 1),))
        self.assertEqual(deal.put(2, 0, 3), "done")
        self.assertEqual(deal.ask(P), ((0, 1), (2, 3)))
        self.assertEqual(deal.put(2, 0, 3), "there")
        self.assertEqual(deal.put(0, 1, 3), "held")
        self.assertEqual(deal.take(0, 1, 3), "gone")
        self.assertEqual(deal.take(0, 1, 2), "done")
        self.assertEqual(deal.put(0, 1, 3), "done")
        self.assertEqual(deal.look(P, (2, 3)), "yes")
        self.assertEqual(deal.look(R01, ()), "no")
        self.assertEqual((deal.steps, deal.ended), (10, False))
        self.assertEqual(deal.graph, ((0, 0, 1), (0, 1, 3), (1, 3, 1), (2, 0, 3)))
        # Nobody else sees this.
        self.assertEqual((base.graph, base.position, base.asked), (GRAPH, 0, 0))
        self.assertEqual((other.graph, other.ask(P), other.steps), (GRAPH, ((0, 1),), 1))

    def test_the_graph_when_it_was_begun(self):
        base = Base(PLAIN, GRAPH)
        deal = base.deal()
        base.commit((("put", 4, 0, 4),))
        self.assertEqual((deal.graph, deal.ask(P), deal.put(4, 0, 4)), (GRAPH, ((0, 1),), "done"))
        self.assertEqual(base.deal().ask(P), ((0, 1), (4, 4)))

    def test_errors_are_no_steps(self):
        base = Base(PLAIN, GRAPH)
        deal = base.deal()
        for call in (deal.put, deal.take):
            for edge in ((6, 0, 0), (0, 4, 0), (-1, 0, 0), (9, 3, 0)):
                self.assertEqual(raised(BadEdge, call, *edge).edge, edge)
            self.assertEqual(raised(Firm, call, 1, 3, 1).name, "f")
            self.assertEqual(raised(Firm, call, 2, 3, 1).name, "f")
        self.assertEqual((deal.steps, deal.graph, deal.ended), (0, GRAPH, False))
        deal.put(5, 0, 5)
        raised(Firm, deal.put, 1, 3, 1)
        base.commit((("put", 5, 0, 5),))
        self.assertEqual(raised(Otherwise, deal.commit).number, 0)


class Commits(unittest.TestCase):
    def test_a_commit(self):
        base = Base(PLAIN, GRAPH)
        deal = base.deal()
        deal.put(3, 2, 3)
        deal.take(0, 0, 1)
        self.assertEqual(deal.commit(), 1)
        self.assertEqual(base.graph, ((0, 1, 2), (1, 3, 1), (3, 2, 3)))
        self.assertEqual((base.position, base.meters, base.open_deals), (1, (1, 0, 3, 0), 0))
        self.assertEqual(base.difference_at(1), (("take", 0, 0, 1), ("put", 3, 2, 3)))
        self.assertEqual((deal.ended, deal.steps, deal.graph), (True, 2, base.graph))

    def test_nothing_to_change(self):
        base = Base(PLAIN, GRAPH)
        base.commit((("put", 5, 0, 5),))
        self.assertEqual(base.deal().commit(), 1)
        deal = base.deal()
        deal.ask(P)
        deal.put(0, 0, 1)
        deal.take(3, 0, 3)
        self.assertEqual(deal.commit(), 1)
        # A deal that undoes itself.
        deal = base.deal()
        deal.put(3, 0, 3)
        deal.take(0, 1, 2)
        deal.take(3, 0, 3)
        deal.put(0, 1, 2)
        self.assertEqual(deal.commit(), 1)
        self.assertEqual((base.position, base.meters), (1, (1, 0, 0, 0)))

    def test_let_though_the_head_has_moved_on(self):
        base = Base(PLAIN, GRAPH)
        deal, other = base.deal(), base.deal()
        deal.ask(asked(way(step(0), node(0), unknown(0)), 0))
        deal.look(P, (2, 2))
        deal.put(2, 2, 2)
        other.put(4, 0, 4)
        other.put(5, 1, 5)
        self.assertEqual(other.commit(), 1)
        self.assertEqual(deal.commit(), 2)
        self.assertEqual(base.graph, graph_told(GRAPH, (("put", 4, 0, 4), ("put", 5, 1, 5), ("put", 2, 2, 2))))
        self.assertEqual(base.difference_at(2), (("put", 2, 2, 2),))
        # The head had moved on by 1 on label 0, as far as both answers were away.
        self.assertEqual((base.asked, base.meters), (2, (1, 2, 3, 0)))

    def test_refused(self):
        base = Base(PLAIN, GRAPH)
        for steps, changes, number in (
            ([("ask", P)], [("put", 4, 0, 4)], 0),
            ([("look", R01, ()), ("put", 0, 2, 1), ("look", R01, ())], [("put", 0, 2, 1)], 0),
            ([("put", 5, 0, 5), ("take", 0, 0, 1)], [("take", 0, 0, 1)], 1),
            ([("put", 0, 0, 1), ("put", 0, 0, 1)], [("take", 0, 0, 1)], 0),
            ([("put", 3, 1, 3)], [("put", 3, 1, 4)], 0),
            ([("put", 0, 1, 3)], [("take", 0, 1, 2)], 0),
            ([("ask", P), ("put", 2, 0, 2), ("ask", P), ("take", 2, 0, 2), ("look", P, (4, 4)), ("ask", P)],
             [("put", 4, 0, 4), ("take", 0, 0, 1), ("put", 4, 0, 3), ("take", 4, 0, 4)], 0),
            ([("look", P, (0, 1)), ("put", 2, 0, 2), ("ask", P)], [("put", 4, 0, 4)], 2),
        ):
            base = Base(PLAIN, GRAPH)
            deal = base.deal()
            for one in steps:
                do_step(deal, one)
            seen = deal.graph
            base.commit(tuple(changes))
            ahead = (base.graph, base.position, base.meters)
            self.assertEqual(raised(Otherwise, deal.commit).number, number)
            self.assertEqual((base.graph, base.position, base.meters), ahead)
            self.assertEqual((deal.ended, deal.graph, deal.steps, base.open_deals), (True, seen, len(steps), 0))
            raised(Ended, deal.commit)

    def test_a_change_told_the_same_for_another_reason(self):
        """A put that is held by another edge than before is told the same."""
        base = Base(PLAIN, GRAPH)
        deal = base.deal()
        self.assertEqual(deal.put(0, 1, 4), "held")
        base.commit((("take", 0, 1, 2), ("put", 0, 1, 3)))
        self.assertEqual(deal.commit(), 1)

    def test_too_many_edges(self):
        base = Base(PLAIN, FULL[:100])
        free = [edge for edge in FULL[100:] if edge[1] != 3]
        deal = base.deal()
        deal.put(*free[0])
        self.assertEqual(len(deal.graph), 101)
        self.assertEqual(raised(TooLarge, deal.commit).part, "graph")
        self.assertEqual((deal.ended, base.position, len(base.graph)), (True, 0, 100))
        # In between there can be more, and a step that is told otherwise goes ahead.
        deal, other = base.deal(), base.deal()
        deal.put(*free[0])
        deal.take(*[edge for edge in FULL if edge[1] == 0][0])
        self.assertEqual(deal.commit(), 1)
        other.put(*free[1])
        other.put(*free[0])
        self.assertEqual(raised(Otherwise, other.commit).number, 1)

    def test_too_many_edges_counts_what_was_asked_anew(self):
        base = Base(PLAIN, FULL[:99])
        free = [edge for edge in FULL[99:] if edge[1] != 3]
        deal = base.deal()
        question = asked(("or", tuple(way(step(label), node(0), node(0)) for label in (0, 2))))
        deal.look(question, ())
        deal.put(*free[0])
        deal.put(*free[1])
        base.commit((("take", 1, 0, 1), ("put", 1, 0, 1), ("take", 1, 2, 1), ("take", 1, 0, 2)))
        base.commit((("put", 1, 2, 1), ("put", 1, 0, 2)))
        raised(TooLarge, deal.commit)
        self.assertEqual(base.asked, 1)


class AskedAnew(unittest.TestCase):
    def check(self, question, row, changes, anew):
        base = Base(PLAIN, GRAPH)
        deal = base.deal()
        if row is None:
            deal.ask(question)
        else:
            deal.look(question, row)
        for change in changes:
            base.commit((change,))
        deal.commit()
        self.assertEqual(base.asked, anew)

    def test_around_the_distance(self):
        question = asked(way(step(2), node(0), unknown(0)), 0)
        self.assertEqual(standing_of(PLAIN, GRAPH, question), 3)
        both = asked(("and", (way(step(2), node(0), node(4)), way(step(0), node(0), node(1)))))
        self.assertEqual(distance_of(PLAIN, GRAPH, both, ()), 3)
        once = [("put", 3, 2, 3)]
        twice = [*once, ("take", 3, 2, 3)]
        either = asked(("or", (way(step(2), node(0), unknown(0)), way(step(0), node(5), node(5)))), 0)
        self.assertEqual(standing_of(PLAIN, GRAPH, either), 1)
        pair = asked(("and", (way(step(2), node(0), node(4)), way(step(0), node(5), node(5)))))
        self.assertEqual(distance_of(PLAIN, GRAPH, pair, ()), 4)
        firm = asked(way(step(3), unknown(0), unknown(1)), 0, 0)
        for question, row, changes, anew in (
            (question, None, (), 0), (question, None, once, 1), (question, None, twice, 1),
            (question, (2,), once, 1), (question, (2,), [("put", 3, 0, 3), ("put", 3, 1, 3)], 0),
            (both, (), once, 1), (both, (), [("put", at, 0, at) for at in (2, 3)], 0),
            (both, (), [("put", at, 0, at) for at in (2, 3, 4)], 1),
            (pair, (), once, 0), (pair, (), [*once, ("put", 2, 0, 2)], 1), (either, None, [("put", 2, 0, 2)], 1),
            # Never otherwise.
            (firm, None, [*twice, ("put", 2, 0, 2)], 0), (firm, (1, 1), twice, 0),
            (asked(("or", (way(step(3), node(1), node(1)), way(step(2), node(0), node(1))))), (), twice * 3, 0),
        ):
            self.check(question, row, changes, anew)

    def test_no_row(self):
        base = Base(TOWN, ())
        deal = base.deal()
        self.assertEqual(deal.ask(asked(way(step(7), unknown(0), unknown(1)), 0, 2)), ())
        base.commit((("put", 0, 0, 0),))
        self.assertEqual((deal.commit(), base.asked), (1, 0))

    def test_the_graph_that_it_saw(self):
        """The distance is that of the graph with the deal's own changes."""
        base = Base(PLAIN, ())
        deal = base.deal()
        question = asked(way(("either", step(0), step(2)), node(0), node(1)))
        deal.put(0, 0, 1)
        deal.look(question, ())
        deal.put(0, 2, 1)
        deal.look(question, ())
        base.commit((("put", 5, 0, 5),))
        base.commit((("take", 5, 0, 5),))
        # 2 is spent: as much as the first answer is away with its one edge is 1, the second one is 4 away.
        self.assertEqual((deal.commit(), base.asked), (3, 1))

    def test_the_meters_when_it_was_begun(self):
        base = Base(PLAIN, GRAPH)
        base.commit((("put", 5, 2, 5),))
        deal = base.deal()
        deal.look(R01, ())
        self.assertEqual((deal.commit(), base.asked), (1, 0))

    def test_also_of_a_refused_commit(self):
        base = Base(PLAIN, GRAPH)
        deal = base.deal()
        deal.look(P, (3, 3))
        deal.ask(asked(way(step(1), unknown(0), node(2)), 0))
        deal.ask(P)
        deal.look(P, (0, 1))
        base.commit((("put", 4, 0, 4),))
        self.assertEqual(raised(Otherwise, deal.commit).number, 2)
        self.assertEqual(base.asked, 2)


class Ends(unittest.TestCase):
    def check_ended(self, deal):
        self.assertIs(deal.ended, True)
        steps, graph = deal.steps, deal.graph
        for call, *things in (
            (deal.ask, P), (deal.look, P, (0, 0)), (deal.put, 0, 0, 0), (deal.take, 0, 0, 0), (deal.commit,),
            # Ahead of all other errors.
            (deal.put, 99, 0, 0), (deal.take, 0, 3, 0),
        ):
            raised(Ended, call, *things)
        self.assertIsNone(deal.drop())
        self.assertEqual((deal.steps, deal.graph), (steps, graph))

    def test_committed_and_dropped(self):
        base = Base(PLAIN, GRAPH)
        deal = base.deal()
        deal.put(4, 0, 4)
        deal.commit()
        self.check_ended(deal)
        deal = base.deal()
        deal.put(4, 0, 5)
        self.assertIsNone(deal.drop())
        self.check_ended(deal)
        self.assertEqual((base.position, base.graph, base.open_deals), (1, graph_told(GRAPH, [("put", 4, 0, 4)]), 0))

    def test_with_blocks(self):
        base = Base(PLAIN, GRAPH)
        made = base.deal()
        with made as deal:
            self.assertEqual(repr(deal), repr(made))
            deal.put(4, 0, 4)
            self.assertFalse(deal.ended)
        self.check_ended(deal)
        self.assertEqual((base.position, base.open_deals), (0, 0))
        with base.deal() as deal:
            deal.put(4, 0, 4)
            self.assertEqual(deal.commit(), 1)
            self.assertTrue(deal.ended)
        self.check_ended(deal)
        self.assertEqual(base.position, 1)
        with base.deal() as deal:
            deal.drop()
        self.check_ended(deal)

    def test_with_blocks_that_end_by_errors(self):
        base = Base(PLAIN, GRAPH)
        for error in (KeyError, Firm):
            with self.assertRaises(error):
                with base.deal() as deal:
                    deal.put(4, 0, 4)
                    if error is KeyError:
                        raise KeyError("x")
                    deal.put(1, 3, 1)
            self.check_ended(deal)
        with self.assertRaises(Otherwise):
            with base.deal() as deal:
                deal.put(4, 0, 4)
                base.commit((("put", 4, 0, 4),))
                deal.commit()
        self.check_ended(deal)
        self.assertEqual((base.position, base.open_deals), (1, 0))


class ByChance(unittest.TestCase):
    def test_as_if_done_at_once(self):
        chance = by_chance(471)
        refused = let = stood = 0
        for _ in range(120):
            schema = chance.choice((SMALL, PLAIN, TOWN))
            base = Base(schema, some_graph(schema, chance, chance.randrange(10)))
            anew = 0
            rows = []
            for _ in range(chance.randrange(2, 5)):
                rows.append((base.deal(), PlainDeal(schema, base.graph, base.meters)))
                for _ in range(chance.randrange(5)):
                    deal, plain = chance.choice(rows)
                    one = some_step(schema, deal.graph, chance)
                    self.assertEqual(do_step(deal, one), plain.do(one))
                    self.assertEqual((deal.graph, deal.steps), (plain.graph, len(plain.steps)))
                base.commit(some_changes(schema, base.graph, chance, chance.randrange(3), 100))
            for deal, plain in rows:
                graph, meters, position = base.graph, base.meters, base.position
                told, again = plain.commit(graph, meters)
                anew += len(again)
                if isinstance(told, int):
                    refused += 1
                    self.assertEqual(raised(Otherwise, deal.commit).number, told)
                    told = graph
                else:
                    let += told != graph
                    self.assertEqual(deal.commit(), position + (told != graph))
                asked_steps = [one for one, _, _ in plain.steps if one[0] in ("ask", "look")]
                stood += meters != plain.meters and len(again) < len(asked_steps)
                self.assertEqual((base.graph, base.asked, deal.ended), (told, anew, True))
        self.assertGreater(min(refused, let, stood), 25)


if __name__ == "__main__":
    unittest.main()
