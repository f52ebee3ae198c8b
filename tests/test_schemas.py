"""Names, schemas, nodes and edges: [3] to [5]."""

import unittest

from edgesaway.errors import BadName, BadNumber, BadRule, TooLarge, Twice
from edgesaway.schemas import check_schema, edges_let, is_edge, is_name, kind_of, node_count, nodes_of
from tests.support import TOWN, all_edges, raised

RESERVED = "kind label many single mark firm edge find way and or not stay at".split()
STEP = ("step", 0, 0, 1, "many")


def with_kinds(*kinds):
    return ("schema", kinds, (STEP,))


def with_labels(*labels):
    return ("schema", (("a", 2), ("b", 2)), labels)


class Names(unittest.TestCase):
    def test_names(self):
        for text in ("a", "z", "a1", "abcdefgh", "a2345678", "kinds", "k", "ats", "many1", "n0t", "cut", "begin"):
            self.assertIs(is_name(text), True, text)

    def test_no_names(self):
        wrong = ["", "abcdefghi", "1", "1a", "A", "aB", "a_", "_a", "a b", "a-", " a", "a ", "a\n", "a#", "0",
                 "\u00e4", "a\u00e4", "a\u0661", "\u0661", "\u00aa"]
        for text in wrong + RESERVED:
            self.assertIs(is_name(text), False, text)


class CheckSchema(unittest.TestCase):
    def test_right_ones(self):
        self.assertIsNone(check_schema(TOWN))
        six = tuple((f"k{n}", 4) for n in range(6))
        self.assertIsNone(check_schema(("schema", six, (STEP,))))
        twelve = tuple((f"l{n}", 0, 1, n % 10, "single") for n in range(12))
        self.assertIsNone(check_schema(with_labels(*twelve)))
        self.assertIsNone(check_schema(with_kinds(("a", 24))))
        self.assertIsNone(check_schema(with_kinds(("a", 24), ("b", 0))))
        self.assertIsNone(check_schema(with_kinds(("a", 0))))
        for price in (0, 9):
            self.assertIsNone(check_schema(with_labels(("l", 0, 1, price, "many"))))
        self.assertIsNone(check_schema(with_labels(("l", 1, 1, 3, "mark"))))
        self.assertIsNone(check_schema(with_labels(("abcdefgh", 1, 0, 3, "single"))))

    def test_too_large(self):
        seven = tuple((f"k{n}", 1) for n in range(7))
        self.assertEqual(raised(TooLarge, check_schema, ("schema", seven, (STEP,))).part, "kinds")
        thirteen = tuple((f"l{n}", 0, 0, 1, "many") for n in range(13))
        self.assertEqual(raised(TooLarge, check_schema, with_labels(*thirteen)).part, "labels")
        self.assertEqual(raised(TooLarge, check_schema, with_kinds(("a", 12), ("b", 13))).part, "nodes")

    def test_kinds(self):
        for name in ("", "abcdefghi", "A", "1a", *RESERVED):
            self.assertEqual(raised(BadName, check_schema, with_kinds((name, 1))).name, name)
        self.assertEqual(raised(Twice, check_schema, with_kinds(("a", 1), ("b", 1), ("a", 1))).name, "a")
        for many in (-1, 25):
            self.assertEqual(raised(BadNumber, check_schema, with_kinds(("a", many))).number, many)

    def test_labels(self):
        for name in ("", "abcdefghi", "L", "9", *RESERVED):
            self.assertEqual(raised(BadName, check_schema, with_labels((name, 0, 0, 1, "many"))).name, name)
        same = ("l", 0, 0, 1, "many")
        self.assertEqual(raised(Twice, check_schema, with_labels(same, ("l", 0, 1, 1, "many"))).name, "l")
        self.assertEqual(raised(Twice, check_schema, with_labels(("b", 0, 0, 1, "many"))).name, "b")
        for wrong in (-1, 2):
            self.assertEqual(raised(BadNumber, check_schema, with_labels(("l", wrong, 0, 1, "many"))).number, wrong)
            self.assertEqual(raised(BadNumber, check_schema, with_labels(("l", 0, wrong, 1, "many"))).number, wrong)
        for price in (-1, 10):
            self.assertEqual(raised(BadNumber, check_schema, with_labels(("l", 0, 0, price, "many"))).number, price)
        for rule in ("", "Many", "firm", "marks"):
            self.assertEqual(raised(BadRule, check_schema, with_labels(("l", 0, 0, 1, rule))).name, "l")
        self.assertEqual(raised(BadRule, check_schema, with_labels(("l", 0, 1, 1, "mark"))).name, "l")

    def test_first_of_two(self):
        seven = tuple(("A", 1) for _ in range(7))
        thirteen = tuple(("L", 0, 0, 1, "many") for _ in range(13))
        self.assertEqual(raised(TooLarge, check_schema, ("schema", seven, thirteen)).part, "kinds")
        self.assertEqual(raised(TooLarge, check_schema, ("schema", (("A", 99),), thirteen)).part, "labels")
        self.assertEqual(raised(BadName, check_schema, with_kinds(("A", 25))).name, "A")
        self.assertEqual(raised(BadNumber, check_schema, with_kinds(("a", 25), ("A", 1))).number, 25)
        self.assertEqual(raised(BadName, check_schema, with_kinds(("A", 1), ("A", 1))).name, "A")
        self.assertEqual(raised(Twice, check_schema, with_kinds(("a", 1), ("a", 25))).name, "a")
        self.assertEqual(raised(BadNumber, check_schema, ("schema", (("a", 25),), (("L", 0, 0, 1, "many"),))).number, 25)
        self.assertEqual(raised(Twice, check_schema, with_labels(("a", 9, 0, 1, "many"))).name, "a")
        self.assertEqual(raised(BadNumber, check_schema, with_labels(("l", 7, 8, 10, "x"))).number, 7)
        self.assertEqual(raised(BadNumber, check_schema, with_labels(("l", 0, 8, 10, "x"))).number, 8)
        self.assertEqual(raised(BadNumber, check_schema, with_labels(("l", 0, 1, 10, "x"))).number, 10)
        self.assertEqual(raised(BadRule, check_schema, with_labels(("l", 0, 1, 1, "x"), ("L", 0, 0, 1, "many"))).name, "l")
        many = ("schema", (("a", 20), ("b", 5)), (("l", 0, 0, 1, "x"),))
        self.assertEqual(raised(BadRule, check_schema, many).name, "l")


class Nodes(unittest.TestCase):
    def test_nodes(self):
        self.assertEqual(node_count(TOWN), 5)
        self.assertEqual([nodes_of(TOWN, kind) for kind in range(3)], [(0, 1, 2), (3, 4), ()])
        self.assertEqual([kind_of(TOWN, node) for node in range(5)], [0, 0, 0, 1, 1])
        gap = ("schema", (("a", 0), ("b", 1), ("c", 0), ("d", 2)), (STEP,))
        self.assertEqual([nodes_of(gap, kind) for kind in range(4)], [(), (0,), (), (1, 2)])
        self.assertEqual([kind_of(gap, node) for node in range(3)], [1, 3, 3])
        self.assertEqual(node_count(with_kinds(("a", 0))), 0)

    def test_is_edge(self):
        let = set(all_edges(TOWN))
        for x in range(-3, 8):
            for label in range(-3, 10):
                for y in range(-3, 8):
                    self.assertIs(is_edge(TOWN, (x, label, y)), (x, label, y) in let, (x, label, y))
        for wrong in ((-1000000, 0, 0), (0, 1000000, 0), (0, 0, 1000000), (0, -8, 0), (-5, 0, -5)):
            self.assertIs(is_edge(TOWN, wrong), False)

    def test_edges_let(self):
        for label in range(8):
            told = tuple(sorted(edge for edge in all_edges(TOWN) if edge[1] == label))
            self.assertEqual(edges_let(TOWN, label), told)
        self.assertEqual(edges_let(TOWN, 4), ((0, 4, 0), (1, 4, 1), (2, 4, 2)))
        self.assertEqual(edges_let(TOWN, 7), ())


if __name__ == "__main__":
    unittest.main()
