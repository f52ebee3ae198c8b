"""Windows and their deals: [31], [46] to [49], [59]."""

import unittest

from edgesaway.answers import distance_of
from edgesaway.bases import Base
from edgesaway.errors import BadEdge, Ended, Firm, Otherwise, TooLarge, TooMany, Unseen
from edgesaway.graphs import outcome
from edgesaway.sights import seen_table
from edgesaway.standings import standing_of
from edgesaway.windows import SightDeal, Window
from tests.asking import asked, node, rows_told, some_question, table_told, truth_told, unknown, way
from tests.dealt import do_step, labels_told
from tests.reckon import step
from tests.seen import Numbers, sees, some_sight, whole_body
from tests.stored import PLAIN, graph_told, some_changes
from tests.support import FLAT, PAIR, TOWN, all_edges, by_chance, raised, some_graph
from tests.test_bases import FULL

# Nodes n#0 n#1 n#2 and labels p, r and f.
SIGHT = ("sight", (0, 2, 3), (0, 1, 2))
GRAPH = ((0, 0, 1), (0, 1, 2), (1, 0, 5), (1, 3, 1), (5, 0, 5))
P = asked(way(step(0), unknown(0), unknown(1)), 0, 0)
R = asked(way(step(2), node(0), unknown(0)), 0)


def window_of(graph=GRAPH, sight=SIGHT):
    base = Base(PLAIN, graph)
    return base, Window(base, sight)


class Steps(unittest.TestCase):
    def test_what_is_seen(self):
        base, window = window_of()
        self.assertEqual((window.table(P), window.asked), (((0, 1),), 0))
        deal = window.deal()
        self.assertIsInstance(deal, SightDeal)
        self.assertEqual((deal.steps, deal.ended), (0, False))
        self.assertEqual(deal.ask(P), ((0, 1),))
        self.assertEqual(deal.put(2, 0, 1), "done")
        self.assertEqual(deal.put(2, 0, 1), "there")
        self.assertEqual(deal.take(2, 0, 2), "gone")
        self.assertEqual(deal.ask(P), ((0, 1), (2, 1)))
        self.assertEqual(deal.look(P, (2, 1)), "yes")
        self.assertEqual(deal.look(asked(way(("plus", step(0)), node(0), node(2))), ()), "no")
        self.assertEqual((deal.steps, base.graph, window.table(P)), (7, GRAPH, ((0, 1),)))
        with self.assertRaises(AttributeError):
            deal.steps = 3

    def test_held(self):
        sight = ("sight", (1,), (0, 1, 2, 3, 4, 5))
        window = window_of(GRAPH, sight)[1]
        deal = window.deal()
        self.assertEqual((deal.put(0, 1, 3), deal.put(1, 1, 3)), ("held", "done"))

    def test_unseen(self):
        base, window = window_of()
        deal = window.deal()
        for call in (deal.put, deal.take):
            for edge, name in (
                ((3, 0, 0), "n#3"), ((0, 1, 0), "q"), ((0, 0, 4), "n#4"), ((3, 1, 4), "n#3"), ((0, 1, 4), "q"),
                # Ahead of what is not let and what is firm.
                ((3, 9, 0), "n#3"), ((9, 1, 0), "q"), ((9, 9, 3), "n#3"), ((-1, 0, 5), "n#5"), ((3, 3, 0), "n#3"),
                ((0, 3, 5), "n#5"), ((0, -1, 5), "n#5"),
            ):
                self.assertEqual(raised(Unseen, call, *edge).name, name)
            for edge in ((9, 9, 9), (-1, 0, 0), (0, 4, 0), (0, 0, 6), (0, 3, 6)):
                self.assertEqual(raised(BadEdge, call, *edge).edge, edge)
            self.assertEqual(raised(Firm, call, 1, 3, 1).name, "f")
        question = asked(way(step(1), unknown(0), node(4)), 0)
        for call, *row in ((deal.ask,), (deal.look, (0,))):
            self.assertEqual(raised(Unseen, call, question, *row).name, "q")
            self.assertEqual(raised(Unseen, call, asked(way(step(0), unknown(0), node(4)), 0), *row).name, "n#4")
        self.assertEqual((deal.steps, base.graph), (0, GRAPH))
        self.assertEqual(raised(Unseen, window.table, question).name, "q")
        deal.take(0, 0, 1)
        deal.commit()
        self.assertEqual(base.graph, GRAPH[1:])


class Commits(unittest.TestCase):
    def test_a_commit(self):
        base, window = window_of()
        deal = window.deal()
        deal.take(0, 0, 1)
        deal.put(2, 2, 2)
        self.assertIsNone(deal.commit())
        self.assertEqual(base.graph, (*GRAPH[1:4], (2, 2, 2), (5, 0, 5)))
        self.assertEqual((base.position, base.meters), (1, (1, 0, 3, 0)))
        self.assertEqual(base.difference_at(1), (("take", 0, 0, 1), ("put", 2, 2, 2)))
        self.assertEqual((deal.ended, deal.steps), (True, 2))

    def test_what_is_not_seen_does_not_refuse(self):
        base, window = window_of()
        deal = window.deal()
        self.assertEqual(deal.ask(P), ((0, 1),))
        deal.put(2, 2, 2)
        base.commit((("put", 4, 0, 4), ("take", 1, 0, 5)))
        self.assertIsNone(deal.commit())
        self.assertEqual((base.position, window.asked, base.asked), (2, 1, 0))

    def test_otherwise(self):
        base, window = window_of()
        deal = window.deal()
        deal.look(P, (0, 1))
        deal.ask(P)
        deal.put(1, 0, 1)
        base.commit((("put", 2, 0, 2),))
        self.assertEqual(raised(Otherwise, deal.commit).number, 1)
        # The truth of the row was asked anew, too: 1 was spent of 1.
        self.assertEqual((window.asked, base.asked, base.position, deal.ended), (2, 0, 1, True))
        raised(Ended, deal.commit)

    def test_distances_of_the_part(self):
        """Seen in part, an answer can be nearer or further away, and that decides what is asked anew."""
        graph = ((0, 0, 1), (0, 0, 5), (5, 0, 1))
        question = asked(way(("star", step(0)), node(0), node(1)))
        base, window = window_of(graph)
        deals = [base.deal(), window.deal()]
        for deal in deals:
            self.assertEqual(deal.look(question, ()), "yes")
        base.commit((("put", 4, 0, 4),))
        for deal in deals:
            deal.commit()
        # In the whole the answer is 2 away, in the part it is 1 away.
        self.assertEqual((base.asked, window.asked), (0, 1))
        # Without node 5 there is no way, whatever is put in.
        seen = ("sight", (0, 3), (0, 1))
        question = asked(way(("then", step(3), step(0)), node(0), node(1)))
        base, window = window_of(((0, 3, 5),), seen)
        deals = [base.deal(), window.deal()]
        for deal in deals:
            self.assertEqual(deal.look(question, ()), "no")
        base.commit((("put", 4, 0, 4),))
        for deal in deals:
            deal.commit()
        self.assertEqual((base.asked, window.asked), (1, 0))

    def test_standings_of_the_part(self):
        base, window = window_of()
        few = asked(way(step(2), unknown(0), unknown(1)), 0, 0)
        deal = window.deal()
        deal.ask(few)
        deal.ask(asked(way(step(3), unknown(0), unknown(1)), 0, 0))
        base.commit((("put", 5, 0, 4),))
        deal.commit()
        self.assertEqual(window.asked, 0)
        deal = window.deal()
        deal.ask(few)
        base.commit((("put", 5, 2, 4),))
        deal.commit()
        self.assertEqual(window.asked, 1)

    def test_too_many_edges(self):
        base = Base(PLAIN, FULL[:100])
        window = Window(base, ("sight", (0, 2), tuple(range(6))))
        free = [edge for edge in FULL[100:] if edge[1] != 3]
        deal = window.deal()
        deal.put(*free[0])
        self.assertEqual(raised(TooLarge, deal.commit).part, "graph")
        self.assertEqual((deal.ended, base.position), (True, 0))
        # Though not much is seen.
        window = Window(base, ("sight", (0, 2), (free[0][0], free[0][2])))
        deal = window.deal()
        deal.put(*free[0])
        self.assertEqual(raised(TooLarge, deal.commit).part, "graph")


class Ends(unittest.TestCase):
    def test_ended(self):
        base, window = window_of()
        for how in ("commit", "drop"):
            deal = window.deal()
            deal.put(2, 0, 2)
            self.assertIsNone(getattr(deal, how)())
            self.assertIs(deal.ended, True)
            for call, *things in (
                (deal.ask, P), (deal.look, P, (0, 0)), (deal.put, 0, 0, 0), (deal.take, 0, 0, 0), (deal.commit,),
                # Ahead of what is not seen.
                (deal.put, 3, 1, 3), (deal.ask, asked(way(step(1), node(0), node(0)))),
            ):
                raised(Ended, call, *things)
            self.assertIsNone(deal.drop())
            self.assertEqual(deal.steps, 1)
        self.assertEqual(base.position, 1)

    def test_with_blocks(self):
        base, window = window_of()
        with window.deal() as deal:
            deal.put(2, 0, 2)
        self.assertEqual((deal.ended, base.position), (True, 0))
        with window.deal() as deal:
            deal.put(2, 0, 2)
            deal.commit()
        self.assertEqual((deal.ended, base.position), (True, 1))
        with self.assertRaises(Unseen):
            with window.deal() as deal:
                deal.put(5, 0, 5)
        self.assertTrue(deal.ended)

    def test_twelve_and_thirteen(self):
        base, window = window_of()
        other = Window(base, SIGHT)
        own = [base.deal() for _ in range(12)]
        deals = [window.deal() for _ in range(12)]
        self.assertEqual(raised(TooMany, window.deal).part, "deals")
        others = [other.deal() for _ in range(12)]
        self.assertEqual(base.open_deals, 12)
        raised(TooMany, base.deal)
        raised(TooMany, other.deal)
        deals[0].drop()
        window.deal()
        raised(TooMany, window.deal)
        own[0].drop()
        self.assertEqual(base.open_deals, 11)
        base.deal()
        others[5].commit()
        other.deal()

    def test_deals_of_the_base_beside_them(self):
        base, window = window_of()
        first, second, third = base.deal(), window.deal(), base.deal()
        first.put(2, 0, 2)
        second.ask(P)
        second.put(1, 2, 1)
        third.take(5, 0, 5)
        third.commit()
        second.commit()
        # The deal of the window was asked anew in the part, where nothing had changed.
        self.assertEqual((base.position, window.asked, base.asked), (2, 1, 0))
        self.assertEqual(first.commit(), 3)
        self.assertEqual(window.table(P), ((0, 1), (2, 2)))
        self.assertEqual(base.graph, ((0, 0, 1), (0, 1, 2), (1, 0, 5), (1, 2, 1), (1, 3, 1), (2, 0, 2)))


class PlainSightDeal:
    """A deal of a window as a list of its steps; questions are told in parts."""

    def __init__(self, base, sight):
        self.schema, self.graph, self.meters = base.schema, base.graph, base.meters
        self.numbers = Numbers(base.schema, sight)
        self.sight = sight
        self.steps = []

    def tell(self, one, graph):
        part = self.numbers.part
        if one[0] == "ask":
            table = table_told(part, self.numbers.graph(graph), self.numbers.question(one[1]))
            return tuple(tuple(self.sight[2][at] for at in row) for row in table)
        if one[0] == "look":
            return truth_told(part, self.numbers.graph(graph), self.numbers.question(one[1]), self.numbers.row(one[2]))
        return outcome(self.schema, graph, one)

    def far(self, one, graph):
        part, small, question = self.numbers.part, self.numbers.graph(graph), self.numbers.question(one[1])
        if one[0] == "ask":
            return standing_of(part, small, question)
        return distance_of(part, small, question, self.numbers.row(one[2]))

    def do(self, one):
        told = self.tell(one, self.graph)
        self.steps.append((one, told, self.graph))
        if told == "done":
            self.graph = graph_told(self.graph, [one])
        return told

    def commit(self, base):
        """The graph behind the steps at the head (or the number of the first refused one), and how many asked anew."""
        graph, anew = base.graph, 0
        for number, (one, told, seen) in enumerate(self.steps):
            if one[0] in ("ask", "look"):
                spent = sum(base.meters[label] - self.meters[label] for label in labels_told(one[1][2]))
                far = self.far(one, seen)
                anew += far is not None and far <= spent
            if self.tell(one, graph) != told:
                return number, anew
            if told == "done":
                graph = graph_told(graph, [one])
        return graph, anew


class ByChance(unittest.TestCase):
    def test_as_if_done_at_once(self):
        chance = by_chance(594)
        refused = let = asked_anew = 0
        for _ in range(120):
            schema = chance.choice((FLAT, PAIR, TOWN))
            sight = some_sight(schema, chance)
            if not sight[2]:
                continue
            base = Base(schema, some_graph(schema, chance, chance.randrange(10)))
            window = Window(base, sight)
            numbers = Numbers(schema, sight)
            seen = [edge for edge in all_edges(schema) if sees(sight, edge) and schema[2][edge[1]][3] > 0]
            rows, anew = [], 0
            for _ in range(chance.randrange(2, 5)):
                rows.append((window.deal(), PlainSightDeal(base, sight)))
                for _ in range(chance.randrange(5)):
                    deal, plain = chance.choice(rows)
                    small = some_question(numbers.part, chance, chance.randrange(2), 2)
                    question = (*small[:2], whole_body(numbers, small[2]))
                    choices = [("ask", question)]
                    choices += [("look", question, tuple(sight[2][at] for at in row)) for row in rows_told(numbers.part, small)]
                    choices += [(chance.choice(("put", "take")), *chance.choice(seen)) for _ in choices if seen]
                    one = chance.choice(choices)
                    self.assertEqual(do_step(deal, one), plain.do(one))
                    self.assertEqual(deal.steps, len(plain.steps))
                base.commit(some_changes(schema, base.graph, chance, chance.randrange(4), 100))
            for deal, plain in rows:
                graph, position = base.graph, base.position
                told, more = plain.commit(base)
                anew += more
                if isinstance(told, int):
                    refused += 1
                    self.assertEqual(raised(Otherwise, deal.commit).number, told)
                    told = graph
                else:
                    self.assertIsNone(deal.commit())
                    let += told != graph
                self.assertEqual((base.graph, window.asked, base.asked), (told, anew, 0))
                self.assertEqual(base.position, position + (told != graph))
            asked_anew += anew
            small = some_question(numbers.part, chance)
            question = (*small[:2], whole_body(numbers, small[2]))
            self.assertEqual(window.table(question), seen_table(schema, sight, base.graph, question))
        self.assertGreater(min(refused, let, asked_anew), 20)


if __name__ == "__main__":
    unittest.main()
