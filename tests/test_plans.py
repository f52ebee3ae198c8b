"""Which plans fit: [2], [11], [34]."""

import unittest

from edgesaway.indexes import index_of
from edgesaway.plans import judge_plan
from tests.asking import SMALL, asked, node, some_question, unknown, way
from tests.planned import BACKWARD, FORWARD, fits_told, some_indexes, some_plan
from tests.reckon import step
from tests.support import FLAT, PAIR, TOWN, by_chance, some_graph

GRAPH = ((0, 0, 1), (1, 0, 2), (2, 1, 4))
ROADS = ("plus", step(0))
# From kind 0, ROADS leads to kind 0 only.
LONG = ("then", ROADS, step(1))
# From kind 0, this leads to both kinds.
BOTH = ("maybe", step(1))


class Judged(unittest.TestCase):
    def fits(self, body, plan, *indexes, kinds=(0, 1)):
        indexes = tuple(index_of(TOWN, GRAPH, *index) for index in indexes)
        told = judge_plan(TOWN, indexes, asked(body, *kinds), plan)
        self.assertIn(told, (True, False))
        return told

    def test_forward_and_backward(self):
        for body in (way(LONG, unknown(0), unknown(1)), way(("stay",), node(0), node(4)), way(LONG, node(3), node(0))):
            self.assertIs(self.fits(body, FORWARD), True)
            self.assertIs(self.fits(body, BACKWARD), True)
            for plan in ((), ("forwards",), ("forward", 0), ("backward", ()), ("way",), ("",), (FORWARD,), ("forward", "backward")):
                self.assertIs(self.fits(body, plan), False, plan)

    def test_index(self):
        body = way(LONG, unknown(0), unknown(1))
        self.assertIs(self.fits(body, ("index", 0), (LONG, 0, 1)), True)
        self.assertIs(self.fits(body, ("index", 1), (ROADS, 0, 0), (LONG, 0, 1)), True)
        self.assertIs(self.fits(way(LONG, node(2), node(3)), ("index", 0), (LONG, 0, 1)), True)
        for index in (
            (LONG, 0, 0), (LONG, 1, 1), (LONG, 1, 0), (ROADS, 0, 1), (("then", ("star", step(0)), step(1)), 0, 1),
            (("then", ROADS, step(1, 1)), 0, 1), (("then", ROADS, step(2)), 0, 1),
        ):
            self.assertIs(self.fits(body, ("index", 0), index), False, index)
        self.assertIs(self.fits(way(LONG, node(2), node(2)), ("index", 0), (LONG, 0, 1)), False)
        self.assertIs(self.fits(way(LONG, node(3), node(3)), ("index", 0), (LONG, 0, 1)), False)
        self.assertIs(self.fits(way(LONG, unknown(1), unknown(0)), ("index", 0), (LONG, 0, 1)), False)
        self.assertIs(self.fits(way(LONG, unknown(1), unknown(0)), ("index", 0), (LONG, 0, 1), kinds=(1, 0)), True)

    def test_numbers_of_indexes(self):
        body = way(LONG, unknown(0), unknown(1))
        for number in (-1, -2, 2, 3, 1000000, -1000000, "0", "", (), (0,), (0, 1), ((),)):
            for word in ("index", "prefix"):
                self.assertIs(self.fits(body, (word, number), (LONG, 0, 1), (LONG, 0, 1)), False, number)
        self.assertIs(self.fits(body, ("index", 0)), False)
        self.assertIs(self.fits(body, ("prefix", 0)), False)
        self.assertIs(self.fits(body, ("index", 0, 0), (LONG, 0, 1)), False)
        self.assertIs(self.fits(body, ("index",), (LONG, 0, 1)), False)

    def test_prefix(self):
        body = way(LONG, unknown(0), unknown(1))
        self.assertIs(self.fits(body, ("prefix", 0), (ROADS, 0, 0)), True)
        self.assertIs(self.fits(way(LONG, node(1), node(0)), ("prefix", 0), (ROADS, 0, 0)), True)
        self.assertIs(self.fits(body, ("prefix", 1), (LONG, 0, 1), (ROADS, 0, 0)), True)
        for index in ((ROADS, 1, 0), (ROADS, 0, 1), (ROADS, 1, 1), (ROADS, 0, 2), (step(1), 0, 0), (step(0), 0, 0), (LONG, 0, 1)):
            self.assertIs(self.fits(body, ("prefix", 0), index), False, index)
        self.assertIs(self.fits(way(LONG, unknown(1), unknown(0)), ("prefix", 0), (ROADS, 0, 0)), False)
        self.assertIs(self.fits(way(LONG, node(3), node(3)), ("prefix", 0), (ROADS, 0, 0)), False)

    def test_prefix_is_no_index_of_the_whole(self):
        self.assertIs(self.fits(way(LONG, unknown(0), unknown(1)), ("index", 0), (ROADS, 0, 0)), False)

    def test_prefix_of_other_expressions(self):
        for expression in (("either", ROADS, step(1)), ("star", ROADS), ("maybe", ROADS), step(0), ("stay",)):
            self.assertIs(self.fits(way(expression, unknown(0), node(0)), ("prefix", 0), (ROADS, 0, 0)), False)

    def test_prefix_to_several_kinds(self):
        # From kind 0, left leads to both kinds: no index has all of it.
        body = way(("then", BOTH, step(0)), unknown(0), node(1))
        for end in (0, 1, 2):
            self.assertIs(self.fits(body, ("prefix", 0), (BOTH, 0, end)), False)
        # From kind 1, only the empty word fits.
        body = way(("then", BOTH, step(5)), unknown(1), node(3))
        self.assertIs(self.fits(body, ("prefix", 0), (BOTH, 1, 1)), True)
        self.assertIs(self.fits(body, ("prefix", 0), (BOTH, 1, 0)), False)

    def test_prefix_that_leads_nowhere(self):
        # No word of left fits from kind 1 to any kind, so an index to any of them leaves nothing out.
        body = way(LONG, unknown(1), unknown(0))
        for end in (0, 1, 2):
            self.assertIs(self.fits(body, ("prefix", 0), (ROADS, 1, end)), True)

    def test_prefix_to_a_kind_without_nodes(self):
        either = ("either", step(0), step(7))
        body = way(("then", either, step(4)), unknown(0), node(0))
        self.assertIs(self.fits(body, ("prefix", 0), (either, 0, 0)), False)
        self.assertIs(self.fits(body, ("prefix", 0), (either, 0, 2)), False)

    def test_not(self):
        body = ("not", way(ROADS, node(0), node(1)))
        self.assertIs(self.fits(body, ("not", FORWARD)), True)
        self.assertIs(self.fits(("not", body), ("not", ("not", BACKWARD))), True)
        for plan in (FORWARD, ("not",), ("not", "forward"), ("not", FORWARD, FORWARD), ("not", ("not", FORWARD)), ("Not", FORWARD),
                     ("parts", (0,), (FORWARD,)), ("not", ()), ("not", 0), ("not", (FORWARD,)), "not", 0, ()):
            self.assertIs(self.fits(body, plan), False, plan)
        self.assertIs(self.fits(body[1], ("not", FORWARD)), False)

    def test_parts(self):
        parts = (way(ROADS, node(0), node(1)), ("not", way(step(1), node(0), node(3))), way(step(2), node(0), node(3)))
        plans = (FORWARD, ("not", BACKWARD), FORWARD)
        for word in ("and", "or"):
            body = (word, parts)
            for order in ((0, 1, 2), (2, 1, 0), (1, 2, 0)):
                self.assertIs(self.fits(body, ("parts", order, plans)), True)
            for order in (
                (), (0, 1), (0, 1, 1), (0, 1, 2, 2), (0, 1, 2, 3), (1, 2, 3), (0, 1, -1), (0, 1, 3), (0, 0, 1, 2), (0, 1, "2"),
                (0, 1, (2,)), "012", 0, 3, "", ((0, 1, 2),), (0, 1, ()),
            ):
                self.assertIs(self.fits(body, ("parts", order, plans)), False, order)
            for other in (
                (), plans[:2], (*plans, FORWARD), (FORWARD,) * 3, (("not", BACKWARD), FORWARD, FORWARD), (FORWARD, "", FORWARD),
                (FORWARD, ("not", 1), FORWARD), (FORWARD, 0, FORWARD), "abc", 3, ((), (), ()), (*plans[:2], ("index", 0)),
            ):
                self.assertIs(self.fits(body, ("parts", (0, 1, 2), other)), False, other)
            for plan in (
                ("parts", (0, 1, 2)), ("parts", (0, 1, 2), plans, ()), ("and", (0, 1, 2), plans), (word, plans), FORWARD,
                ("parts", plans, (0, 1, 2)), ("not", plans), "parts", 3, (), ((), (), ()), ((0, 1, 2), plans),
            ):
                self.assertIs(self.fits(body, plan), False, plan)

    def test_plans_stand_in_the_order_of_the_body(self):
        parts = (way(ROADS, node(0), node(1)), ("not", way(step(1), node(0), node(3))))
        plans = (FORWARD, ("not", FORWARD))
        self.assertIs(self.fits(("and", parts), ("parts", (1, 0), plans)), True)
        self.assertIs(self.fits(("and", parts), ("parts", (1, 0), plans[::-1])), False)

    def test_one_part_and_eight(self):
        ways = tuple(way(step(label), node(0), node(0)) for label in range(8))
        for many in (1, 8):
            plan = ("parts", tuple(range(many)), (FORWARD,) * many)
            self.assertIs(self.fits(("or", ways[:many]), plan), True)
            self.assertIs(self.fits(("or", ways[:9 - many]), plan), False)

    def test_any_shape(self):
        chance = by_chance(171)
        deep = ()
        for _ in range(29):
            deep = (deep,)

        def shape(depth):
            if depth == 0 or chance.random() < 0.4:
                return chance.choice(("forward", "index", "prefix", "not", "parts", "", 0, 1, -1, 1000000, (), deep[:1], FORWARD))
            return tuple(shape(depth - 1) for _ in range(chance.randrange(4)))

        body = ("and", (way(LONG, unknown(0), unknown(1)), ("not", ("or", (way(step(2), node(0), node(3)),)))))
        right = ("parts", (0, 1), (("prefix", 0), ("not", ("parts", (0,), (FORWARD,)))))
        self.assertIs(self.fits(body, right, (ROADS, 0, 0)), True)
        places = [(), (0,), (1,), (1, 0), (2,), (2, 0), (2, 0, 0), (2, 0, 1), (2, 1), (2, 1, 1), (2, 1, 1, 1), (2, 1, 1, 2, 0)]
        for place in places:
            for other in (deep, "", "x", 7, -1, (), ((),), *[shape(4) for _ in range(40)]):
                plan = with_thing(right, place, other)
                self.assertIs(self.fits(body, plan, (ROADS, 0, 0)), plan == right or self.still_right(place, other), plan)

    def still_right(self, place, other):
        return place in ((2, 0), (2, 1, 1, 2, 0)) and other == FORWARD

    def test_by_chance(self):
        chance = by_chance(172)
        taken = 0
        for _ in range(150):
            schema = chance.choice((FLAT, PAIR, TOWN, SMALL))
            graph = some_graph(schema, chance, 8)
            question = some_question(schema, chance)
            indexes = some_indexes(schema, graph, question)
            plan = some_plan(schema, indexes, question, question[2], chance)
            self.assertIs(judge_plan(schema, indexes, question, plan), True)
            for _ in range(10):
                other = other_plan(chance, plan, len(indexes))
                told = fits_told(schema, indexes, question, question[2], other)
                taken += told
                self.assertIs(judge_plan(schema, indexes, question, other), told, (question, other))
        self.assertGreater(taken, 100)


def with_thing(plan, place, other):
    """A plan with another thing at a place, which is told by numbers from outside to inside."""
    if not place:
        return other
    at = place[0]
    return (*plan[:at], with_thing(plan[at], place[1:], other), *plan[at + 1:])


def other_plan(chance, plan, many):
    """A plan of the same shape in which one way has another plan, or an order is otherwise."""
    if plan[0] == "not":
        return "not", other_plan(chance, plan[1], many)
    if plan[0] == "parts":
        at = chance.randrange(len(plan[2]))
        if chance.random() < 0.2:
            return "parts", (*plan[1][:at], chance.randrange(-1, 4), *plan[1][at + 1:]), plan[2]
        return "parts", plan[1], (*plan[2][:at], other_plan(chance, plan[2][at], many), *plan[2][at + 1:])
    return chance.choice((FORWARD, BACKWARD, *[(chance.choice(("index", "prefix")), chance.randrange(-1, many + 1))] * 4))


if __name__ == "__main__":
    unittest.main()
