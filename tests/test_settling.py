"""What is settled by the ways that still stand: [32]."""

import itertools
import unittest

from edgesaway.answers import answer_of
from edgesaway.balls import ball
from edgesaway.papers import paper_price
from edgesaway.settling import settled
from tests.asking import SMALL, asked, node, rows_told, some_question, truth_told, way, ways_told
from tests.reckon import price_at, step
from tests.support import by_chance, some_graph

WAYS = tuple(way(step(label), node(0), node(0)) for label in range(8))


def settled_told(body, words):
    """How a body is settled [32]; words is a list, used up, with "yes", "no", or "open" for a way that does not stand."""
    if body[0] == "way":
        return words.pop(0)
    parts = [settled_told(part, words) for part in (body[1:] if body[0] == "not" else body[1])]
    if body[0] == "not":
        return {"yes": "no", "no": "yes"}.get(parts[0], "open")
    if body[0] == "and":
        return "no" if "no" in parts else "yes" if parts == ["yes"] * len(parts) else "open"
    return "yes" if "yes" in parts else "no" if parts == ["no"] * len(parts) else "open"


class Settled(unittest.TestCase):
    def told(self, body, words):
        """How it is settled with ways that stand for ever or just so, and with ways that just do not, or by far."""
        found = set()
        for standing, not_standing in (((None, 5), (5, 5)), ((4, 3), (3, 3)), ((1, 0), (2, 9))):
            pairs = [not_standing if word == "open" else standing for word in words]
            prices, spent = zip(*pairs)
            for truth in ("yes", "no"):
                truths = tuple(truth if word == "open" else word for word in words)
                found.add(settled(asked(body), truths, prices, spent))
        self.assertEqual(len(found), 1)
        return found.pop()

    def test_a_way(self):
        question = asked(WAYS[0])
        for truth in ("yes", "no"):
            for price, spent, stands in (
                (3, 2, True), (3, 3, False), (3, 4, False), (1, 0, True), (1, 1, False), (None, 0, True), (None, 1000, True),
                (1000, 999, True), (1000, 1000, False),
            ):
                self.assertEqual(settled(question, (truth,), (price,), (spent,)), truth if stands else "open")

    def test_rules(self):
        pair = WAYS[:2]
        for one, other in itertools.product(("yes", "no", "open"), repeat=2):
            words = (one, other)
            both = "no" if "no" in words else "open" if "open" in words else "yes"
            some = "yes" if "yes" in words else "open" if "open" in words else "no"
            self.assertEqual(self.told(("and", pair), words), both)
            self.assertEqual(self.told(("or", pair), words), some)
            opposite = {"yes": "no", "no": "yes", "open": "open"}
            self.assertEqual(self.told(("not", ("and", pair)), words), opposite[both])
            self.assertEqual(self.told(("not", ("not", ("or", pair))), words), some)
            mixed = ("or", (("not", pair[0]), pair[1]))
            self.assertEqual(self.told(mixed, words), settled_told(mixed, list(words)))

    def test_one_part(self):
        for word, told in itertools.product(("and", "or"), ("yes", "no", "open")):
            self.assertEqual(self.told((word, WAYS[:1]), (told,)), told)

    def test_within_one_another(self):
        bodies = (
            ("and", (("or", (WAYS[0], ("not", WAYS[1]))), WAYS[2], ("not", ("or", WAYS[3:5])))),
            ("or", (WAYS[0], ("and", (WAYS[1], ("or", (WAYS[2], ("and", WAYS[3:5]))))))),
        )
        for body in bodies:
            for words in itertools.product(("yes", "no", "open"), repeat=5):
                truths = tuple("yes" if word == "open" else word for word in words)
                spent = tuple(2 if word == "open" else 1 for word in words)
                told = settled(asked(body), truths, (2,) * 5, spent)
                self.assertEqual(told, settled_told(body, list(words)))

    def test_each_way_has_its_own_part(self):
        body = ("and", WAYS[:3])
        self.assertEqual(settled(asked(body), ("yes", "yes", "yes"), (1, 2, 3), (0, 1, 2)), "yes")
        for at in range(3):
            spent = [0, 1, 2]
            spent[at] += 1
            self.assertEqual(settled(asked(body), ("yes", "yes", "yes"), (1, 2, 3), tuple(spent)), "open")
            prices = [1, 2, 3]
            prices[at] = None
            spent[at] = 1000
            self.assertEqual(settled(asked(body), ("yes", "yes", "yes"), tuple(prices), tuple(spent)), "yes")

    def test_graphs_in_reach(self):
        chance = by_chance(141)
        seen = set()
        for _ in range(120):
            graph = some_graph(SMALL, chance, chance.randrange(7))
            question = some_question(SMALL, chance, depth=2)
            rows = rows_told(SMALL, question)
            ways = ways_told(question[2])
            if not rows or not 1 < len(ways) < 4:
                continue
            row = chance.choice(rows)
            _, _, _, papers = answer_of(SMALL, graph, question, row)
            truths = tuple("yes" if paper[0] in ("sure", "flow") else "no" for paper in papers)
            prices = tuple(paper_price(paper) for paper in papers)
            spent = tuple(chance.randrange(3) for _ in ways)
            reached = {truth_told(SMALL, other, question, row) for other in self.in_reach(graph, ways, spent)}
            word = settled(question, truths, prices, spent)
            seen.add(word)
            self.assertEqual(reached, {"yes", "no"} if word == "open" else {word})
        self.assertEqual(seen, {"yes", "no", "open"})

    def in_reach(self, graph, ways, spent):
        """All graphs in reach, but for what has changed on labels of no way."""
        for _, other in ball(SMALL, graph, sum(spent)):
            changed = set(graph) ^ set(other)
            far = [sum(price_at(SMALL, edge[1]) for edge in changed if edge[1] in labels) for labels in map(labels_in, ways)]
            if all(price <= part for price, part in zip(far, spent)):
                yield other


def labels_in(body):
    def labels(expression):
        if expression[0] == "step":
            return {expression[1]}
        return {label for part in expression[1:] for label in labels(part)}
    return labels(body[1])


if __name__ == "__main__":
    unittest.main()
