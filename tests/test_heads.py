"""Heads: [2], [4], [6], [42], [52] to [55]."""

import unittest

from edgesaway.errors import Ahead, BadEdge, Firm, Gone, Held, There
from edgesaway.heads import Head
from tests.stored import PLAIN, graph_told
from tests.support import raised

GRAPH = ((0, 0, 1), (0, 1, 2), (1, 3, 1))
CHANGES = ((("put", 5, 0, 5),), (("take", 0, 1, 2), ("put", 0, 1, 3)), (("put", 4, 2, 4),))


def state_of(head, copies=2):
    return head.graph, head.position, [head.known(at) for at in range(copies)], [head.next_letter(at) for at in range(copies)]


class Letters(unittest.TestCase):
    def setUp(self):
        self.head = Head(PLAIN, GRAPH, (100, 100))

    def test_at_first(self):
        self.assertEqual(state_of(self.head), (GRAPH, 0, [(0, 0)] * 2, [None] * 2))
        self.assertEqual(Head(PLAIN, GRAPH, ()).graph, GRAPH)

    def test_wishes(self):
        head = self.head
        self.assertEqual(head.hear(("wish", 1, 1)), ("whole", 1, 1, 0, GRAPH))
        self.assertEqual((head.known(0), head.known(1)), ((0, 0), (1, 0)))
        head.commit(CHANGES[0])
        graph = head.graph
        # Once more: the newest graph is told, but the acknowledged position stays.
        self.assertEqual(head.hear(("wish", 1, 1)), ("whole", 1, 1, 1, graph))
        self.assertEqual(head.known(1), (1, 0))
        self.assertEqual(head.next_letter(1), ("entry", 1, 1, 1, CHANGES[0]))
        # A later life, also when some were skipped.
        self.assertEqual(head.hear(("wish", 1, 4)), ("whole", 1, 4, 1, graph))
        self.assertEqual((head.known(1), head.next_letter(1)), ((4, 1), None))
        for life in (1, 2, 3):
            self.assertIsNone(head.hear(("wish", 1, life)))
            self.assertEqual(head.known(1), (4, 1))
        self.assertEqual(head.hear(("wish", 0, 2)), ("whole", 0, 2, 1, graph))

    def test_acks(self):
        head = self.head
        head.hear(("wish", 0, 2))
        for changes in CHANGES:
            head.commit(changes)
        for letter, known in (
            (("ack", 0, 1, 2), (2, 0)), (("ack", 0, 3, 2), (2, 0)), (("ack", 1, 2, 2), (2, 0)), (("ack", 0, 2, 0), (2, 0)),
            (("ack", 0, 2, 2), (2, 2)), (("ack", 0, 2, 1), (2, 2)), (("ack", 0, 2, 2), (2, 2)), (("ack", 0, 2, 3), (2, 3)),
        ):
            self.assertIsNone(head.hear(letter))
            self.assertEqual(head.known(0), known)
        self.assertEqual(head.known(1), (0, 0))
        # A new life begins at the head's position.
        head.hear(("wish", 0, 3))
        self.assertEqual(head.known(0), (3, 3))
        self.assertIsNone(head.hear(("ack", 0, 2, 4)))
        self.assertEqual(head.known(0), (3, 3))

    def test_an_ack_of_an_elder_head(self):
        """It can tell a position that this head does not have; nothing lies behind it."""
        head = self.head
        self.assertIsNone(head.hear(("ack", 0, 1, 9)))
        self.assertEqual(head.known(0), (0, 0))
        head.hear(("wish", 0, 1))
        head.hear(("ack", 0, 1, 9))
        self.assertEqual((head.known(0), head.next_letter(0)), ((1, 9), None))
        head.commit(CHANGES[0])
        self.assertIsNone(head.next_letter(0))
        self.assertEqual(head.hear(("wish", 0, 2)), ("whole", 0, 2, 1, head.graph))
        self.assertEqual(head.known(0), (2, 1))

    def test_letters_for_copies(self):
        self.head.hear(("wish", 0, 1))
        ahead = state_of(self.head)
        for letter in (("whole", 0, 1, 0, GRAPH), ("entry", 0, 1, 1, CHANGES[0]), ("whole", 0, 5, 3, ())):
            self.assertIsNone(self.head.hear(letter))
            self.assertEqual(state_of(self.head), ahead)

    def test_next_letters(self):
        head = self.head
        for changes in CHANGES:
            head.commit(changes)
        self.assertIsNone(head.next_letter(0))
        head = Head(PLAIN, GRAPH, (100, 100))
        head.hear(("wish", 0, 7))
        self.assertIsNone(head.next_letter(0))
        for changes in CHANGES:
            head.commit(changes)
        for position, changes in enumerate(CHANGES, 1):
            # Asking changes nothing.
            for _ in range(2):
                self.assertEqual(head.next_letter(0), ("entry", 0, 7, position, changes))
            head.hear(("ack", 0, 7, position))
        self.assertEqual((head.next_letter(0), head.next_letter(1)), (None, None))


class Commits(unittest.TestCase):
    def test_positions(self):
        head = Head(PLAIN, GRAPH, ())
        graph = GRAPH
        for position, changes in enumerate(CHANGES, 1):
            self.assertEqual(head.commit(changes), position)
            graph = graph_told(graph, changes)
            self.assertEqual((head.graph, head.position), (graph, position))
        self.assertEqual(head.commit(()), 3)
        # Changes that take one another back are a commit nevertheless.
        self.assertEqual(head.commit((("put", 2, 0, 2), ("take", 2, 0, 2))), 4)
        self.assertEqual((head.graph, head.position), (graph, 4))

    def test_as_they_were_committed(self):
        head = Head(PLAIN, GRAPH, (100,))
        head.hear(("wish", 0, 1))
        changes = (("put", 5, 0, 5), ("take", 0, 0, 1), ("take", 5, 0, 5))
        head.commit(changes)
        self.assertEqual(head.next_letter(0), ("entry", 0, 1, 1, changes))

    def test_errors(self):
        head = Head(PLAIN, GRAPH, (0, 0))
        head.hear(("wish", 0, 1))
        ahead = state_of(head)
        for kind, told, *changes in (
            (BadEdge, (0, 0, 6), ("put", 0, 0, 6)), (Firm, "f", ("take", 1, 3, 1)), (There, (0, 0, 1), ("put", 0, 0, 1)),
            (Held, (0, 1, 2), ("put", 0, 1, 3)), (Gone, (0, 0, 2), ("take", 0, 0, 2)),
            # Behind changes that would be too dear already.
            (There, (5, 2, 5), ("put", 5, 2, 5), ("put", 5, 2, 5)), (Gone, (0, 0, 1), ("take", 0, 0, 1), ("take", 0, 0, 1)),
        ):
            self.assertEqual([*vars(raised(kind, head.commit, tuple(changes))).values()], [told])
            self.assertEqual(state_of(head), ahead)

    def test_ahead(self):
        head = Head(PLAIN, GRAPH, (4, 3))
        # Copies without a known life are no matter.
        self.assertEqual(head.commit((("put", 5, 2, 5), ("put", 5, 2, 4))), 1)
        head.hear(("wish", 0, 1))
        # Equal to the lead, and one more.
        self.assertEqual(raised(Ahead, head.commit, (("take", 5, 2, 5), ("put", 3, 1, 3))).number, 0)
        self.assertEqual(head.commit((("take", 5, 2, 5), ("put", 3, 0, 3))), 2)
        ahead = state_of(head)
        self.assertEqual(raised(Ahead, head.commit, (("take", 3, 0, 3),)).number, 0)
        self.assertEqual(state_of(head), ahead)
        self.assertEqual(head.commit(()), 2)
        # What was acknowledged counts no longer.
        head.hear(("ack", 0, 1, 2))
        head.hear(("wish", 1, 1))
        self.assertEqual(head.commit((("take", 3, 0, 3), ("put", 3, 1, 3))), 3)
        # Both copies would be left behind: the first one is told.
        self.assertEqual(raised(Ahead, head.commit, (("take", 3, 1, 3),)).number, 0)
        self.assertEqual(raised(Ahead, head.commit, (("put", 3, 0, 3),)).number, 1)
        head.hear(("ack", 1, 1, 3))
        self.assertEqual(head.commit((("put", 3, 0, 3),)), 4)
        # There and back counts twice.
        head.hear(("ack", 0, 1, 4))
        self.assertEqual(raised(Ahead, head.commit, (("put", 2, 0, 2), ("take", 2, 0, 2), ("put", 2, 0, 2))).number, 1)

    def test_leads_of_zero(self):
        head = Head(PLAIN, GRAPH, (0,))
        head.commit(CHANGES[0])
        head.hear(("wish", 0, 1))
        self.assertEqual(raised(Ahead, head.commit, CHANGES[2]).number, 0)
        self.assertEqual((head.commit(()), head.position), (1, 1))

    def test_an_acknowledged_position_beyond(self):
        head = Head(PLAIN, GRAPH, (1,))
        head.hear(("wish", 0, 1))
        head.hear(("ack", 0, 1, 5))
        for at in range(3):
            head.commit((("put", 5, 0, at),))
        self.assertEqual(raised(Ahead, head.commit, CHANGES[2]).number, 0)
        for at in range(3):
            head.commit((("put", 4, 0, at),))
        self.assertEqual((head.position, head.next_letter(0)[3]), (6, 6))
        self.assertEqual(raised(Ahead, head.commit, CHANGES[0]).number, 0)


if __name__ == "__main__":
    unittest.main()
