"""Cuts, and the judges of papers of a yes: [10], [14], [16], [18], [24]."""

import unittest

from edgesaway.books import book_of
from edgesaway.flows import cut_of, judge_flow, judge_sure
from edgesaway.searches import Search
from tests.reckon import all_states, any_paper, cut_told, flow_right, step, sure_right
from tests.support import FLAT, PAIR, TOWN, by_chance, some_book, some_graph

# The example of the document.
DOC = ("schema", (("n", 3),), (("p", 0, 0, 2, "many"), ("q", 0, 0, 3, "many")))
DOC_GRAPH = ((0, 0, 1), (0, 1, 2), (1, 0, 2))
DOC_BOOK = book_of(DOC, ("then", ("star", step(0)), ("maybe", step(1))))
ROADS = (2, ((0, 0, 1), (1, 0, 2)))
RAIL = (3, ((0, 1, 2),))

# Labels: p for 3, f is firm.
FIRM = ("schema", (("n", 4),), (("p", 0, 0, 3, "many"), ("f", 0, 0, 0, "many")))


class Cuts(unittest.TestCase):
    GRAPH = ((0, 0, 1), (1, 0, 2), (1, 1, 3), (2, 1, 4))
    BOOK = book_of(TOWN, ("then", ("plus", step(0)), step(1)))

    def cut(self, side):
        return cut_of(TOWN, self.GRAPH, self.BOOK, 0, side)

    def test_told(self):
        self.assertEqual(self.cut(()), ((0, 0, 1),))
        self.assertEqual(self.cut(((1, 0),)), ((1, 0, 2), (1, 1, 3)))
        self.assertEqual(self.cut(((1, 0), (3, 1))), ((1, 0, 2),))
        self.assertEqual(self.cut(((2, 0),)), ((0, 0, 1), (2, 1, 4)))
        self.assertEqual(self.cut(((1, 0), (2, 0))), ((1, 1, 3), (2, 1, 4)))

    def test_reached_and_all_states(self):
        self.assertEqual(self.cut(Search(TOWN, self.GRAPH, self.BOOK, 0).states), ())
        self.assertEqual(self.cut(tuple(all_states(TOWN, self.BOOK))), ())

    def test_back(self):
        book = book_of(TOWN, ("then", step(1, 1), ("star", step(0, 1))))
        self.assertEqual(cut_of(TOWN, self.GRAPH, book, 4, ()), ((2, 1, 4),))
        self.assertEqual(cut_of(TOWN, self.GRAPH, book, 4, ((2, 1),)), ((1, 0, 2),))
        self.assertEqual(cut_of(TOWN, self.GRAPH, book, 4, ((1, 0), (2, 1))), ((0, 0, 1),))

    def test_firm(self):
        book = book_of(TOWN, ("star", step(3)))
        self.assertEqual(cut_of(TOWN, ((0, 3, 1), (0, 3, 2), (1, 3, 2)), book, 0, ((1, 3),)), ((0, 3, 2), (1, 3, 2)))

    def test_other_graph(self):
        side = ((1, 0),)
        self.assertEqual(cut_of(TOWN, ((0, 0, 2), (1, 0, 1), (1, 1, 4)), self.BOOK, 0, side), ((0, 0, 2), (1, 1, 4)))
        self.assertEqual(cut_of(TOWN, (), self.BOOK, 0, side), ())

    def test_by_chance(self):
        chance = by_chance(41)
        for _ in range(200):
            schema = chance.choice((FLAT, PAIR))
            graph = some_graph(schema, chance, 12)
            book = some_book(schema, chance, range(6))
            side = tuple(state for state in all_states(schema, book) if chance.random() < 0.4)
            for x in range(3):
                self.assertEqual(cut_of(schema, graph, book, x, side), cut_told(graph, book, x, side))


class Flows(unittest.TestCase):
    def doc(self, paper, graph=DOC_GRAPH, x=0, y=2):
        told = judge_flow(DOC, graph, DOC_BOOK, x, y, paper)
        self.assertIs(told, flow_right(DOC, graph, DOC_BOOK, x, y, paper))
        return told

    def test_example(self):
        self.assertIs(self.doc(("flow", 5, (ROADS, RAIL), ())), True)
        self.assertIs(self.doc(("flow", 5, (RAIL, ROADS), ())), True)
        self.assertIs(self.doc(("flow", 5, (RAIL, (1, ROADS[1]), (1, ROADS[1])), ())), True)
        self.assertIs(self.doc(("flow", 5, ((1, RAIL[1]), ROADS, (2, RAIL[1])), ())), True)

    def test_other_words(self):
        for word in ("sure", "gap", "never", "", "flows"):
            self.assertIs(self.doc((word, 5, (ROADS, RAIL), ())), False)

    def test_amounts_and_prices(self):
        ways = (ROADS[1], RAIL[1])
        for price, amounts in (
            (4, (2, 3)), (6, (2, 3)), (5, (3, 2)), (5, (1, 4)), (4, (1, 3)), (0, (2, 3)), (-5, (2, 3)), (-5, (-2, -3)),
            (6, (3, 3)), (1000000, (1000000, 0)), (3, (0, 3)), (2, (2, 0)), (5, (5, 0)), (5, (0, 5)), (1, (-2, 3)),
        ):
            self.assertIs(self.doc(("flow", price, tuple(zip(amounts, ways)), ())), False, (price, amounts))
        for flow in ((), (ROADS,), (RAIL,)):
            for price in (0, 2, 3, 5):
                self.assertIs(self.doc(("flow", price, flow, ())), False)
        self.assertIs(self.doc(("flow", 5, (ROADS, RAIL, (0, RAIL[1])), ())), False)
        self.assertIs(self.doc(("flow", 5, (ROADS, RAIL, (1, RAIL[1]), (-1, RAIL[1])), ())), False)

    def test_an_edge_too_full(self):
        # Each way alone is let; together they have more of the first edge than its price.
        graph = ((0, 0, 1), (1, 0, 2), (1, 1, 2))
        flow = ((1, ((0, 0, 1), (1, 0, 2))), (1, ((0, 0, 1), (1, 1, 2))))
        self.assertIs(self.doc(("flow", 2, flow, ()), graph), True)
        flow = ((2, ((0, 0, 1), (1, 0, 2))), (3, ((0, 0, 1), (1, 1, 2))))
        self.assertIs(self.doc(("flow", 5, flow, ((1, 0),)), graph), False)

    def test_wrong_ways(self):
        for way in (
            (), ((0, 1, 2), (2, 0, 2)), ((0, 1, 1),), ((0, 0, 2),), ((1, 0, 2),), ((0, 0, 1),), ((0, 1, 3),),
            ((-1, 1, 2),), ((0, -1, 2),), ((0, 2, 2),), ((0, 1, -1),), ((1000000, 1000000, -1000000),),
        ):
            self.assertIs(self.doc(("flow", 5, (ROADS, (3, way)), ())), False, way)
            self.assertIs(self.doc(("flow", 5, (ROADS, RAIL, (1, way)), ())), False, way)
        # A right way that does not lie in the graph.
        self.assertIs(self.doc(("flow", 2, (ROADS, ), ()), DOC_GRAPH[:1]), False)
        self.assertIs(self.doc(("flow", 5, (ROADS, (3, ((0, 0, 2),))), ())), False)

    def test_twice_over_an_edge(self):
        graph = ((0, 0, 1), (1, 0, 0), (1, 0, 2))
        around = ((0, 0, 1), (1, 0, 0), (0, 0, 1), (1, 0, 2))
        self.assertIs(self.doc(("flow", 2, ((2, ((0, 0, 1), (1, 0, 2))),), ()), graph), True)
        self.assertIs(self.doc(("flow", 2, ((2, around),), ()), graph), False)
        self.assertIs(self.doc(("flow", 2, ((1, around), (1, around[2:])), ()), graph), False)
        schema = ("schema", DOC[1], (("p", 0, 0, 4, "many"), ("q", 0, 0, 2, "many")))
        book = book_of(schema, ("then", ("star", step(0)), step(1)))
        graph = ((0, 0, 1), (1, 0, 0), (1, 1, 2))
        around = ((0, 0, 1), (1, 0, 0), (0, 0, 1), (1, 1, 2))
        # Going over the edge for 4 twice with 2 each time is just enough.
        self.assertIs(judge_flow(schema, graph, book, 0, 2, ("flow", 2, ((2, around),), ((0, 0), (1, 0)))), True)
        self.assertIs(judge_flow(schema, graph, book, 0, 2, ("flow", 2, ((1, around),) * 2, ((0, 0), (1, 0)))), True)

    def test_firm_edges(self):
        book = book_of(FIRM, ("star", ("either", step(0), step(1))))
        graph = ((0, 0, 1), (1, 1, 2), (2, 1, 3))
        way = graph
        # Firm edges have any load, but do not stand in a cut.
        self.assertIs(judge_flow(FIRM, graph, book, 0, 3, ("flow", 3, ((3, way),), ())), True)
        self.assertIs(judge_flow(FIRM, graph, book, 0, 3, ("flow", 3, ((1, way),) * 3, ())), True)
        self.assertIs(judge_flow(FIRM, graph, book, 0, 3, ("flow", 3, ((3, way),), ((1, 0),))), False)
        graph = (*graph, (3, 1, 1))
        around = ((0, 0, 1), (1, 1, 2), (2, 1, 3), (3, 1, 1), (1, 1, 2), (2, 1, 3))
        self.assertIs(judge_flow(FIRM, graph, book, 0, 3, ("flow", 3, ((3, around),), ())), True)
        # The cut has both an edge for 3 and a firm one that leads nowhere.
        graph = ((0, 0, 1), (0, 1, 2), (1, 1, 3))
        paper = ("flow", 3, ((3, ((0, 0, 1), (1, 1, 3))),), ())
        self.assertIs(judge_flow(FIRM, graph, book, 0, 3, paper), False)
        self.assertIs(judge_flow(FIRM, graph, book, 0, 3, (*paper[:3], ((2, 1),))), True)

    def test_sides(self):
        # The state (2, 0) ends a word; (1, 1) does no harm but what leads out of it.
        for side in (((2, 0),), ((2, 1),), ((1, 0), (2, 0)), ((0, 0), (2, 0))):
            self.assertIs(self.doc(("flow", 5, (ROADS, RAIL), side)), False, side)
        self.assertIs(self.doc(("flow", 5, (ROADS, RAIL), ((1, 0),))), True)
        self.assertIs(self.doc(("flow", 5, (ROADS, RAIL), ((1, 1),))), True)
        self.assertIs(self.doc(("flow", 5, (ROADS, RAIL), ((0, 0), (0, 1), (1, 0), (1, 1)))), True)
        for side in (
            ((1, 1), (1, 0)), ((1, 0), (1, 0)), ((1, 2),), ((3, 0),), ((-1, 0),), ((1, -1),), ((0, 0), (1000000, 1)),
        ):
            self.assertIs(self.doc(("flow", 5, (ROADS, RAIL), side)), False, side)

    def test_last_and_other_labels_at_y(self):
        # A state at y is let in a side if no word ends with its label; a state with a last label elsewhere, too.
        book = book_of(FLAT, ("then", step(0), step(3)))
        graph = ((0, 0, 2), (2, 3, 2))
        flow = ((1, graph),)
        self.assertIs(judge_flow(FLAT, graph, book, 0, 2, ("flow", 1, flow, ((2, 0),))), True)
        self.assertIs(judge_flow(FLAT, graph, book, 0, 2, ("flow", 1, flow, ((1, 3), (2, 0)))), True)
        self.assertIs(judge_flow(FLAT, graph, book, 0, 2, ("flow", 1, flow, ((2, 0), (2, 3)))), False)

    def test_kinds_of_states(self):
        book = book_of(PAIR, ("then", step(0), step(2)))
        graph = ((0, 0, 1), (1, 2, 3))
        flow = ((1, graph),)
        for side, told in (((), True), (((1, 0),), True), (((4, 2),), True), (((3, 0),), False), (((1, 2),), False)):
            self.assertIs(judge_flow(PAIR, graph, book, 0, 3, ("flow", 1, flow, side)), told, side)
        back = book_of(PAIR, ("then", step(2, 1), step(0, 1)))
        flow = ((1, graph[::-1]),)
        for side, told in (((), True), (((1, 2),), True), (((2, 0),), True), (((3, 2),), False), (((4, 0),), False)):
            self.assertIs(judge_flow(PAIR, graph, back, 3, 0, ("flow", 1, flow, side)), told, side)

    def test_same_node(self):
        graph = ((0, 0, 1), (1, 0, 0))
        self.assertIs(self.doc(("flow", 2, ((2, graph),), ()), graph, 0, 0), False)
        plus = book_of(DOC, ("plus", step(0)))
        self.assertIs(judge_flow(DOC, graph, plus, 0, 0, ("flow", 2, ((2, graph),), ())), True)
        self.assertIs(judge_flow(DOC, graph, plus, 0, 0, ("flow", 2, ((2, ()),), ())), False)

    def test_any_shape(self):
        chance = by_chance(42)
        for _ in range(300):
            graph = some_graph(PAIR, chance, 8)
            book = some_book(PAIR, chance, range(6))
            for word, judge, right in (("flow", judge_flow, flow_right), ("sure", judge_sure, sure_right)):
                paper = any_paper(chance, word)
                self.assertIs(judge(PAIR, graph, book, 0, 1, paper), right(PAIR, graph, book, 0, 1, paper), paper)


class Sure(unittest.TestCase):
    BOOK = book_of(FIRM, ("star", ("either", step(0), step(1))))
    GRAPH = ((0, 0, 1), (0, 1, 1), (1, 0, 2), (1, 1, 2))

    def sure(self, way, x=0, y=2):
        told = judge_sure(FIRM, self.GRAPH, self.BOOK, x, y, ("sure", way))
        self.assertIs(told, sure_right(FIRM, self.GRAPH, self.BOOK, x, y, ("sure", way)))
        return told

    def test_told(self):
        self.assertIs(self.sure(((0, 1, 1), (1, 1, 2))), True)
        self.assertIs(self.sure(((0, 1, 1), (1, 1, 2)), 0, 1), False)
        self.assertIs(self.sure(((0, 1, 1), (1, 1, 2)), 1, 2), False)

    def test_an_edge_not_firm(self):
        self.assertIs(self.sure(((0, 0, 1), (1, 1, 2))), False)
        self.assertIs(self.sure(((0, 1, 1), (1, 0, 2))), False)

    def test_an_edge_not_there(self):
        self.assertIs(self.sure(((0, 1, 2),)), False)
        self.assertIs(self.sure(((0, 1, 1), (1, 1, 3), (3, 1, 2))), False)
        for edge in ((0, 2, 2), (0, -1, 2), (-1, 1, 2), (0, 1, 1000000)):
            self.assertIs(self.sure((edge,)), False)
            self.assertIs(self.sure(((0, 1, 1), (1, 1, 2), edge)), False)

    def test_empty_way(self):
        self.assertIs(self.sure((), 0, 0), True)
        self.assertIs(self.sure((), 0, 2), False)
        plus = book_of(FIRM, ("plus", step(1)))
        self.assertIs(judge_sure(FIRM, self.GRAPH, plus, 0, 0, ("sure", ())), False)

    def test_no_word_of_the_book(self):
        one = book_of(FIRM, step(1))
        self.assertIs(judge_sure(FIRM, self.GRAPH, one, 0, 1, ("sure", ((0, 1, 1),))), True)
        self.assertIs(judge_sure(FIRM, self.GRAPH, one, 0, 2, ("sure", ((0, 1, 1), (1, 1, 2)))), False)
        back = book_of(FIRM, step(1, 1))
        self.assertIs(judge_sure(FIRM, self.GRAPH, back, 1, 0, ("sure", ((0, 1, 1),))), True)
        self.assertIs(judge_sure(FIRM, self.GRAPH, back, 0, 1, ("sure", ((0, 1, 1),))), False)

    def test_other_words(self):
        for word in ("flow", "never", "gap", "", "Sure"):
            self.assertIs(judge_sure(FIRM, self.GRAPH, self.BOOK, 0, 1, (word, ((0, 1, 1),))), False)


if __name__ == "__main__":
    unittest.main()
