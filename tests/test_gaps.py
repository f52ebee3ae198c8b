"""Papers of a no: [19], [20], [21], [24]."""

import unittest

from edgesaway.books import book_of
from edgesaway.costs import cheapest_way
from edgesaway.gaps import judge_gap, judge_never, no_paper
from edgesaway.meaning import joined
from edgesaway.papers import plain_distance
from tests.reckon import all_states, any_paper, gap_right, never_right, other_paper, paper_right, step
from tests.support import FLAT, PAIR, TOWN, by_chance, some_book, some_graph
from tests.test_flows import DOC, DOC_BOOK, DOC_GRAPH

# Labels: p for 1, q for 2 and single, f is firm.
ROAD = ("schema", (("n", 4),), (("p", 0, 0, 1, "many"), ("q", 0, 0, 2, "single"), ("f", 0, 0, 0, "many")))


class Gaps(unittest.TestCase):
    def doc(self, paper, x=2, y=0):
        told = judge_gap(DOC, DOC_GRAPH, DOC_BOOK, x, y, paper)
        self.assertIs(told, gap_right(DOC, DOC_GRAPH, DOC_BOOK, x, y, paper))
        return told

    def road(self, graph, expression, x, y, paper):
        book = book_of(ROAD, expression)
        told = judge_gap(ROAD, graph, book, x, y, paper)
        self.assertIs(told, gap_right(ROAD, graph, book, x, y, paper))
        return told

    def test_example(self):
        self.assertIs(self.doc(("gap", 2, (), ((2, 0, 0),))), True)

    def test_other_words(self):
        for word in ("never", "flow", "sure", "", "GAP"):
            self.assertIs(self.doc((word, 2, (), ((2, 0, 0),))), False)

    def test_prices(self):
        for price in (0, 1, 3, -2, 1000000, -1000000):
            self.assertIs(self.doc(("gap", price, (), ((2, 0, 0),))), False, price)
        self.assertIs(self.doc(("gap", 3, (), ((2, 1, 0),))), False)
        self.assertIs(self.doc(("gap", 0, (), ())), False)

    def test_a_yes(self):
        for way in (((0, 1, 2),), ((0, 0, 2),), ()):
            for price in (0, 1, 2):
                self.assertIs(self.doc(("gap", price, (), way), 0, 2), False)
        self.assertIs(self.doc(("gap", 2, (), ((1, 0, 1),)), 1, 1), False)
        self.assertIs(self.doc(("gap", 2, (), ()), 1, 1), False)

    def test_same_node(self):
        paper = ("gap", 1, (), ((0, 0, 0),))
        self.assertIs(self.road((), ("plus", step(0)), 0, 0, paper), True)
        self.assertIs(self.road((), ("star", step(0)), 0, 0, paper), False)

    def test_first_edges_lift_no_more_than_they_cost(self):
        expression = ("then", step(0), step(1))
        graph = ((1, 1, 3),)
        way = ((0, 0, 1), (1, 1, 3))
        self.assertIs(self.road(graph, expression, 0, 3, ("gap", 1, (), way)), True)
        # 2 is come to for nothing, which the layers have to tell.
        graph = ((0, 0, 2), (1, 1, 3))
        self.assertIs(self.road(graph, expression, 0, 3, ("gap", 1, ((2, 0, 0),), way)), True)
        self.assertIs(self.road(graph, expression, 0, 3, ("gap", 1, (), way)), False)

    def test_later_edges_lift_no_more_than_they_cost(self):
        expression = ("then", step(0), step(1))
        graph = ((0, 0, 1),)
        way = ((0, 0, 1), (1, 1, 3))
        self.assertIs(self.road(graph, expression, 0, 3, ("gap", 2, ((1, 0, 0), (2, 0, 1), (3, 0, 1)), way)), False)
        layers = ((0, 0, 1), (1, 0, 0), (2, 0, 1), (3, 0, 1))
        self.assertIs(self.road(graph, expression, 0, 3, ("gap", 2, layers, way)), True)
        # The layers are right, and the way costs more than they lift.
        longer = ((0, 0, 2), (2, 1, 3))
        self.assertIs(self.road(graph, expression, 0, 3, ("gap", 2, layers, longer)), False)
        # Lifting by 3 over an edge for 2.
        layers = ((0, 0, 1), (1, 0, 0), (2, 0, 1), (3, 0, 1))
        self.assertIs(self.road(graph, expression, 0, 3, ("gap", 3, layers, longer)), False)

    def test_lower_heights_are_let(self):
        expression = ("then", step(0), step(1))
        layers = ((0, 0, 0), (1, 0, 0), (2, 0, 0), (3, 0, 0))
        self.assertIs(self.road(((0, 0, 1),), expression, 0, 3, ("gap", 2, layers, ((0, 0, 1), (1, 1, 3)))), True)
        self.assertIs(self.road((), expression, 0, 3, ("gap", 2, layers, ((0, 0, 1), (1, 1, 3)))), False)
        # A state at another node with a last label may be low.
        layers = (layers[0], (0, 1, 1), *layers[1:])
        self.assertIs(self.road(((0, 0, 1),), expression, 0, 3, ("gap", 2, layers, ((0, 0, 1), (1, 1, 3)))), True)

    def test_heights(self):
        expression = ("then", step(0), step(1))
        way = ((0, 0, 1), (1, 1, 3))
        right = ((0, 0, 1), (1, 0, 0), (2, 0, 1), (3, 0, 1))
        for at, height in ((0, 2), (0, 3), (0, -1), (1, -1), (1, -1000000), (3, 2), (3, 1000000), (1, 1)):
            layers = (*right[:at], (*right[at][:2], height), *right[at + 1:])
            self.assertIs(self.road(((0, 0, 1),), expression, 0, 3, ("gap", 2, layers, way)), False, layers)

    def test_the_end_is_high(self):
        way = ((0, 0, 1),)
        self.assertIs(self.road((), step(0), 0, 1, ("gap", 1, (), way)), True)
        self.assertIs(self.road((), step(0), 0, 1, ("gap", 1, ((1, 0, 0),), way)), False)
        either = ("either", step(0), step(1))
        self.assertIs(self.road((), either, 0, 1, ("gap", 1, (), way)), True)
        self.assertIs(self.road((), either, 0, 1, ("gap", 1, ((1, 1, 0),), way)), False)
        self.assertIs(self.road((), either, 0, 1, ("gap", 1, ((2, 1, 0),), way)), True)

    def test_layers_out_of_order(self):
        expression = ("then", step(0), step(1))
        way = ((0, 0, 1), (1, 1, 3))
        right = ((0, 0, 1), (1, 0, 0), (2, 0, 1), (3, 0, 1))
        for layers in (right[::-1], (right[1], right[0], *right[2:]), (*right[:2], *right[1:]), (*right, right[3])):
            self.assertIs(self.road(((0, 0, 1),), expression, 0, 3, ("gap", 2, layers, way)), False, layers)
        # One state twice with two heights, ascending.
        for layers in (((0, 0, 0), *right), (*right[:2], (1, 0, 1), *right[2:])):
            self.assertIs(self.road(((0, 0, 1),), expression, 0, 3, ("gap", 2, layers, way)), False, layers)

    def test_states_of_other_kinds(self):
        book = book_of(PAIR, ("then", step(2), step(5)))
        way = ((0, 2, 3), (3, 5, 3))
        right = ("gap", 4, ((3, 2, 1), (4, 2, 1)), way)
        self.assertIs(judge_gap(PAIR, (), book, 0, 3, right), True)
        for layer in (
            (0, 2, 1), (4, 3, 1), (4, -1, 1), (4, 6, 1), (5, 2, 1), (1000000, 1000000, 0), (0, 5, 3), (3, 0, 2), (-1, 2, 1),
        ):
            layers = tuple(sorted((*right[2], layer)))
            self.assertIs(judge_gap(PAIR, (), book, 0, 3, ("gap", 4, layers, way)), False, layer)
        self.assertIs(judge_gap(PAIR, (), book, 0, 3, ("gap", 4, (*right[2], (4, 5, 3)), way)), True)

    def test_ways(self):
        expression = ("plus", ("either", step(0), step(2)))
        graph = ((1, 2, 3),)
        layers = ()
        self.assertIs(self.road(graph, expression, 0, 3, ("gap", 1, layers, ((0, 0, 3),))), True)
        self.assertIs(self.road(graph, expression, 0, 3, ("gap", 1, layers, ((0, 0, 1), (1, 2, 3)))), True)
        for way in (
            (), ((0, 0, 2),), ((1, 0, 3),), ((0, 0, 2), (1, 2, 3)), ((0, 0, 1), (1, 2, 3), (3, 0, 3)),
            ((0, 2, 3),), ((0, 0, 4),), ((0, 3, 3),), ((0, -1, 3),), ((-1, 0, 3),), ((0, 1, 3),),
            ((1000000, 0, -1000000),), ((0, 0, 3), (3, 0, 3)),
        ):
            self.assertIs(self.road(graph, expression, 0, 3, ("gap", 1, layers, way)), False, way)

    def test_firm_edges(self):
        expression = ("star", ("either", step(0), step(2)))
        graph = ((0, 2, 1), (2, 2, 3))
        right = ("gap", 1, ((1, 2, 0),), ((0, 2, 1), (1, 0, 2), (2, 2, 3)))
        self.assertIs(self.road(graph, expression, 0, 3, right), True)
        # A missing firm edge cannot be walked, and leads nowhere.
        self.assertIs(self.road(graph, expression, 0, 3, (*right[:3], ((0, 2, 1), (1, 2, 2), (2, 0, 3)))), False)
        self.assertIs(self.road(graph, expression, 0, 3, (*right[:3], ((0, 0, 2), (2, 2, 3)))), True)
        self.assertIs(self.road(graph, expression, 0, 3, ("gap", 1, (), right[3])), False)
        self.assertIs(self.road((), ("then", step(2), step(0)), 0, 3, ("gap", 1, (), ((0, 2, 1), (1, 0, 3)))), False)

    def test_nothing_twice(self):
        # q is single and held at 0: going round by q twice would tell a wrong price.
        plus = ("plus", step(1))
        graph = ((1, 1, 0),)
        self.assertIs(self.road(graph, plus, 0, 3, ("gap", 2, (), ((0, 1, 3),))), True)
        # 0 q 1, 1 q 0, 0 q 3: leaves 0 by q twice, for 2 + 0 + 2.
        expression = ("then", ("plus", step(1)), ("maybe", step(0)))
        around = ((0, 1, 1), (1, 1, 0), (0, 1, 3))
        self.assertIs(self.road(graph, expression, 0, 3, ("gap", 4, (), around)), False)
        # With free edges, so that the sum would be right: leaves 0 twice; comes to 1 twice.
        graph = ((0, 0, 0), (0, 0, 1), (1, 0, 0), (1, 0, 1))
        layers = ((0, 0, 0), (1, 0, 0))
        for way, told in (
            (((0, 0, 2),), True), (((0, 0, 1), (1, 0, 2)), True), (((0, 0, 0), (0, 0, 2)), False),
            (((0, 0, 1), (1, 0, 0), (0, 0, 2)), False), (((0, 0, 1), (1, 0, 1), (1, 0, 2)), False),
        ):
            self.assertIs(self.road(graph, ("plus", step(0)), 0, 2, ("gap", 1, layers, way)), told, way)
        # Comes to 1 by p twice without leaving any node by p twice.
        expression = ("plus", ("either", step(0), step(1)))
        graph = ((0, 0, 1), (1, 1, 3), (3, 0, 1))
        layers = ((1, 0, 0), (3, 1, 0))
        for way, told in ((((0, 0, 1), (1, 0, 2)), True), (((0, 0, 1), (1, 1, 3), (3, 0, 1), (1, 0, 2)), False)):
            self.assertIs(self.road(graph, expression, 0, 2, ("gap", 1, layers, way)), told, way)
        # Leaves 1 by p twice without coming to any node by p twice.
        graph = ((0, 0, 1), (0, 1, 1), (1, 0, 0))
        layers = ((0, 0, 0), (1, 0, 0), (1, 1, 0))
        for way, told in ((((0, 1, 1), (1, 0, 2)), True), (((0, 1, 1), (1, 0, 0), (0, 0, 2)), True),
                          (((0, 1, 1), (1, 0, 0), (0, 0, 1), (1, 0, 2)), False)):
            self.assertIs(self.road(graph, expression, 0, 2, ("gap", 1, layers, way)), told, way)

    def test_single_held(self):
        graph = ((0, 1, 1),)
        self.assertIs(self.road(graph, step(1), 0, 3, ("gap", 4, ((1, 1, 0),), ((0, 1, 3),))), True)
        self.assertIs(self.road(graph, step(1), 0, 3, ("gap", 4, (), ((0, 1, 3),))), False)
        self.assertIs(self.road(graph, step(1), 0, 3, ("gap", 2, ((1, 1, 0),), ((0, 1, 3),))), False)
        self.assertIs(self.road(graph, step(1), 2, 3, ("gap", 2, (), ((2, 1, 3),))), True)

    def test_back(self):
        expression = ("then", step(0, 1), step(1, 1))
        layers = ((0, 0, 1), (1, 0, 1), (2, 0, 1), (3, 0, 1))
        self.assertIs(self.road((), expression, 0, 3, ("gap", 3, layers, ((1, 0, 0), (3, 1, 1)))), True)
        self.assertIs(self.road((), expression, 0, 3, ("gap", 3, layers, ((0, 0, 1), (1, 1, 3)))), False)


class Nevers(unittest.TestCase):
    def never(self, graph, expression, x, y, side, word="never"):
        book = book_of(ROAD, expression)
        told = judge_never(ROAD, graph, book, x, y, (word, side))
        self.assertIs(told, never_right(ROAD, graph, book, x, y, (word, side)))
        return told

    def test_told(self):
        graph = ((0, 2, 1), (1, 2, 2))
        self.assertIs(self.never(graph, ("star", step(2)), 0, 3, ((1, 2), (2, 2))), True)
        self.assertIs(self.never(graph, ("star", step(2)), 0, 3, ((0, 2), (1, 2), (2, 2))), True)
        self.assertIs(self.never(graph, ("star", step(2)), 3, 0, ()), True)
        for side in ((), ((1, 2),), ((2, 2),), ((1, 2), (2, 2), (3, 2)), ((2, 2), (1, 2)), ((1, 2), (1, 2), (2, 2))):
            self.assertIs(self.never(graph, ("star", step(2)), 0, 3, side), False, side)
        for word in ("sure", "gap", "flow", ""):
            self.assertIs(self.never(graph, ("star", step(2)), 0, 3, ((1, 2), (2, 2)), word), False)

    def test_closed_in_the_graph_alone(self):
        # Closed as the graph is, but p can be put in.
        self.assertIs(self.never((), step(0), 0, 3, ()), False)
        self.assertIs(self.never(((0, 0, 1),), ("star", step(0)), 0, 3, ((1, 0),)), False)
        self.assertIs(self.never((), ("then", step(2), step(0)), 0, 3, ()), True)
        self.assertIs(self.never(((0, 2, 1),), ("then", step(2), step(0)), 0, 3, ((1, 2),)), False)
        every = tuple((node, 0) for node in range(4))
        self.assertIs(self.never((), ("then", step(0), step(2)), 0, 3, every), True)
        self.assertIs(self.never((), ("then", step(0), step(2)), 0, 3, every[:3]), False)
        self.assertIs(self.never(((1, 2, 3),), ("then", step(0), step(2)), 0, 3, every), False)
        self.assertIs(self.never(((1, 2, 3),), ("then", step(0), step(2)), 0, 2, (*every, (3, 2))[:4]), False)
        self.assertIs(self.never(((1, 2, 3),), ("then", step(0), step(2)), 0, 2, tuple(sorted((*every, (3, 2))))), True)

    def test_held_edges_can_be_walked(self):
        graph = ((0, 1, 1),)
        self.assertIs(self.never(graph, step(1), 0, 3, ((1, 1),)), False)

    def test_same_node(self):
        self.assertIs(self.never((), ("plus", step(2)), 0, 0, ()), True)
        self.assertIs(self.never((), ("star", step(2)), 0, 0, ()), False)

    def test_kinds(self):
        book = book_of(PAIR, step(0))
        states = tuple(all_states(PAIR, book))
        self.assertIs(judge_never(PAIR, (), book, 0, 3, ("never", states)), True)
        self.assertIs(judge_never(PAIR, (), book, 3, 4, ("never", ())), True)
        for state in ((3, 0), (3, 1), (0, 6), (-1, 0), (1000000, -1000000)):
            self.assertIs(judge_never(PAIR, (), book, 0, 3, ("never", tuple(sorted((*states, state))))), False)


class Papers(unittest.TestCase):
    def test_never(self):
        for graph, expression, x, y in (
            ((), step(3), 0, 1), (((0, 3, 1), (1, 3, 2)), ("star", step(3)), 1, 0), ((), step(0), 0, 3), ((), ("stay",), 0, 1),
            (((0, 3, 1),), ("then", step(0), step(3)), 0, 2),
        ):
            book = book_of(TOWN, expression)
            paper = no_paper(TOWN, graph, book, x, y)
            self.assertEqual(paper[0], "never")
            self.assertIs(judge_never(TOWN, graph, book, x, y, paper), True)
            self.assertTrue(never_right(TOWN, graph, book, x, y, paper))

    def test_prices(self):
        for graph, expression, x, y, price in (
            ((), step(0), 0, 1, 2), ((), ("then", step(0), step(1)), 0, 3, 5), (((1, 1, 3),), ("then", step(0), step(1)), 0, 3, 2),
            (((0, 2, 4),), step(2), 0, 3, 2), (((0, 2, 4),), ("either", step(2), step(1)), 0, 3, 2),
            (((0, 6, 1),), ("either", step(6), ("then", step(0), step(4))), 0, 2, 3), ((), ("plus", step(6)), 0, 0, 5),
        ):
            book = book_of(TOWN, expression)
            paper = no_paper(TOWN, graph, book, x, y)
            self.assertEqual(paper[:2], ("gap", price))
            self.assertIs(judge_gap(TOWN, graph, book, x, y, paper), True)

    def test_by_chance(self):
        chance = by_chance(71)
        found = {}
        for _ in range(250):
            schema = chance.choice((FLAT, PAIR, TOWN, ROAD))
            graph = some_graph(schema, chance, chance.randrange(10))
            book = some_book(schema, chance, range(len(schema[2])))
            x, y = chance.randrange(4), chance.randrange(4)
            if joined(schema, graph, book, x, y):
                continue
            paper = no_paper(schema, graph, book, x, y)
            self.assertTrue(paper_right(schema, graph, book, x, y, paper), paper)
            self.assertEqual(paper[0] == "never", cheapest_way(schema, graph, book, x, y) is None)
            found[paper[0]] = found.get(paper[0], 0) + 1
            judge, right = {"gap": (judge_gap, gap_right), "never": (judge_never, never_right)}[paper[0]]
            self.assertIs(judge(schema, graph, book, x, y, paper), True)
            for _ in range(6):
                other = other_paper(chance, schema, book, paper)
                told = right(schema, graph, book, x, y, other)
                self.assertIs(judge(schema, graph, book, x, y, other), told, (graph, book, other))
            for word, check, plain in (("gap", judge_gap, gap_right), ("never", judge_never, never_right)):
                other = any_paper(chance, word)
                told = plain(schema, graph, book, x, y, other)
                self.assertIs(check(schema, graph, book, x, y, other), told, (graph, book, other))
        self.assertGreater(min(found.values()), 40, found)

    def test_by_balls(self):
        chance = by_chance(72)
        small = ("schema", (("n", 2), ("m", 1)), (
            ("p", 0, 0, 1, "many"), ("q", 0, 0, 2, "single"), ("u", 0, 1, 1, "single"), ("f", 0, 0, 0, "many"),
        ))
        prices = []
        for _ in range(120):
            graph = some_graph(small, chance, chance.randrange(5))
            book = some_book(small, chance, range(4))
            x, y = chance.randrange(2), chance.randrange(3)
            if not joined(small, graph, book, x, y):
                paper = no_paper(small, graph, book, x, y)
                told = plain_distance(small, graph, book, x, y, 5)
                prices.append(told)
                self.assertEqual(paper[1] if paper[0] == "gap" and paper[1] <= 5 else None, told)
        self.assertLessEqual({1, 2, 3, None}, set(prices))


if __name__ == "__main__":
    unittest.main()
