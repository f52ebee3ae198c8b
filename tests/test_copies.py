"""Copies: [30], [52], [53], [56]."""

import unittest

from edgesaway.copies import Copy
from edgesaway.errors import Ahead, Blank
from edgesaway.heads import Head
from edgesaway.lags import told_word, told_words
from edgesaway.truths import truth_of
from tests.asking import SMALL, asked, node, rows_told, some_question, unknown, way
from tests.reckon import step
from tests.stored import PLAIN, graph_told, some_changes
from tests.support import by_chance, raised, some_graph

GRAPH = ((0, 0, 1), (0, 1, 2), (1, 3, 1))
PUT = (("put", 5, 0, 5),)
TAKE = (("take", 5, 0, 5), ("take", 0, 1, 2))
P01 = asked(way(step(0), node(0), node(1)))


def state_of(copy):
    return copy.life, copy.blank, copy.position, copy.graph


def begun(number=0, lead=5):
    copy = Copy(PLAIN, number, lead)
    copy.begin()
    return copy


class Letters(unittest.TestCase):
    def check(self, copy, letter, answer, state):
        self.assertEqual(copy.hear(letter), answer)
        self.assertEqual(state_of(copy), state)

    def test_lives(self):
        copy = Copy(PLAIN, 3, 5)
        self.assertEqual(state_of(copy), (0, True, None, None))
        for life in (1, 2, 3):
            self.assertEqual(copy.begin(), ("wish", 3, life))
            self.assertEqual(state_of(copy), (life, True, None, None))
        copy.hear(("whole", 3, 3, 4, GRAPH))
        self.assertEqual(copy.begin(), ("wish", 3, 4))
        self.assertEqual(state_of(copy), (4, True, None, None))

    def test_whole_letters(self):
        copy = begun()
        self.check(copy, ("whole", 0, 1, 2, GRAPH), ("ack", 0, 1, 2), (1, False, 2, GRAPH))
        other = graph_told(GRAPH, PUT)
        self.check(copy, ("whole", 0, 1, 2, other), None, (1, False, 2, GRAPH))
        self.check(copy, ("whole", 0, 1, 1, other), None, (1, False, 2, GRAPH))
        self.check(copy, ("whole", 0, 1, 5, other), ("ack", 0, 1, 5), (1, False, 5, other))
        copy.begin()
        self.check(copy, ("whole", 0, 2, 0, ()), ("ack", 0, 2, 0), (2, False, 0, ()))
        self.check(copy, ("whole", 0, 2, 0, GRAPH), None, (2, False, 0, ()))

    def test_entries(self):
        copy = begun()
        copy.hear(("whole", 0, 1, 2, GRAPH))
        self.check(copy, ("entry", 0, 1, 4, TAKE), None, (1, False, 2, GRAPH))
        other = graph_told(GRAPH, PUT)
        self.check(copy, ("entry", 0, 1, 3, PUT), ("ack", 0, 1, 3), (1, False, 3, other))
        # Doubled, and overtaken by later ones: the ack tells the copy's position.
        self.check(copy, ("entry", 0, 1, 3, PUT), ("ack", 0, 1, 3), (1, False, 3, other))
        last = graph_told(other, TAKE)
        self.check(copy, ("entry", 0, 1, 4, TAKE), ("ack", 0, 1, 4), (1, False, 4, last))
        for position in (1, 2, 3, 4):
            self.check(copy, ("entry", 0, 1, position, PUT), ("ack", 0, 1, 4), (1, False, 4, last))
        self.check(copy, ("entry", 0, 1, 6, PUT), None, (1, False, 4, last))

    def test_a_blank_copy_hears_no_entries(self):
        copy = begun()
        for position in (0, 1, 2):
            self.check(copy, ("entry", 0, 1, position, PUT), None, (1, True, None, None))

    def test_other_lives_and_copies(self):
        copy = begun()
        copy.begin()
        for letter in (("whole", 0, 1, 0, GRAPH), ("whole", 0, 3, 0, GRAPH), ("whole", 1, 2, 0, GRAPH)):
            self.check(copy, letter, None, (2, True, None, None))
        copy.hear(("whole", 0, 2, 0, GRAPH))
        for letter in (
            ("whole", 0, 1, 9, ()), ("whole", 1, 2, 9, ()), ("entry", 0, 1, 1, PUT), ("entry", 1, 2, 1, PUT),
            ("entry", 0, 3, 1, PUT), ("entry", 0, 1, 0, PUT),
        ):
            self.check(copy, letter, None, (2, False, 0, GRAPH))

    def test_letters_for_heads(self):
        copy = begun()
        self.check(copy, ("wish", 0, 1), None, (1, True, None, None))
        self.check(copy, ("ack", 0, 1, 0), None, (1, True, None, None))
        copy.hear(("whole", 0, 1, 0, GRAPH))
        self.check(copy, ("wish", 0, 1), None, (1, False, 0, GRAPH))
        self.check(copy, ("ack", 0, 1, 1), None, (1, False, 0, GRAPH))


class Told(unittest.TestCase):
    def test_blank(self):
        for copy in (Copy(PLAIN, 0, 5), begun()):
            raised(Blank, copy.told, P01, ())
            raised(Blank, copy.told_rows, P01)
        copy = begun()
        copy.hear(("whole", 0, 1, 0, GRAPH))
        copy.begin()
        raised(Blank, copy.told, P01, ())

    def test_with_the_lead_as_lag(self):
        question = asked(way(("either", step(2), step(0)), unknown(0), unknown(1)), 0, 0)
        for lead in range(6):
            copy = begun(0, lead)
            graph = ((0, 0, 1), (0, 2, 1), (3, 2, 4))
            copy.hear(("whole", 0, 1, 0, graph))
            self.assertEqual(copy.told_rows(question), told_words(PLAIN, graph, question, lead))
            for row in ((0, 1), (3, 4), (2, 2)):
                self.assertEqual(copy.told(question, row), told_word(PLAIN, graph, question, row, lead))
            # The distances are 4, 3 and 1.
            words = [copy.told(question, row) for row in ((0, 1), (3, 4), (2, 2))]
            self.assertEqual(words, [
                "yes" if lead < 4 else "open", "yes" if lead < 3 else "open", "no" if lead < 1 else "open",
            ])


class Net(unittest.TestCase):
    def test_sure_whatever_becomes_of_letters(self):
        """Letters of several heads are lost, doubled, held up and overtaken; what is sure is so at that moment."""
        chance = by_chance(561)
        counts = {"yes": 0, "no": 0, "open": 0}
        refused = behind = 0
        for _ in range(80):
            schema = chance.choice((SMALL, PLAIN))
            leads = tuple(chance.randrange(7) for _ in range(chance.randrange(1, 4)))
            head = Head(schema, some_graph(schema, chance, 6), leads)
            copies = [Copy(schema, at, lead) for at, lead in enumerate(leads)]
            net = [copy.begin() for copy in copies]
            for _ in range(60):
                word = chance.choice(("deliver",) * 6 + ("send", "send", "commit", "commit", "double", "lose", "begin", "new"))
                at = chance.randrange(len(copies))
                if word == "commit":
                    try:
                        head.commit(some_changes(schema, head.graph, chance, chance.randrange(1, 3), 4))
                    except Ahead:
                        refused += 1
                elif word == "begin":
                    net.append(copies[at].begin())
                elif word == "new" and chance.random() < 0.3:
                    # Copies are started again when the head begins anew.
                    head = Head(schema, head.graph, leads)
                    net += [copy.begin() for copy in copies]
                elif word == "send":
                    net += [letter for letter in [head.next_letter(at)] if letter]
                elif net and word in ("deliver", "lose", "double"):
                    letter = net[chance.randrange(len(net))]
                    if word == "double":
                        net.append(letter)
                        continue
                    net.remove(letter)
                    if word == "deliver":
                        hears = head if letter[0] in ("wish", "ack") else copies[letter[1]]
                        net += [answer for answer in [hears.hear(letter)] if answer]
                for copy in copies:
                    if not copy.blank:
                        behind += copy.graph != head.graph
                        question = some_question(schema, chance, chance.randrange(2), 1)
                        for row in rows_told(schema, question)[:2]:
                            told = copy.told(question, row)
                            counts[told] += 1
                            self.assertIn(told, ("open", truth_of(schema, head.graph, question, row)))
        self.assertGreater(min(refused, behind, *counts.values()), 100)


if __name__ == "__main__":
    unittest.main()
