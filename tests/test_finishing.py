"""Finishing of tables: [38]."""

import unittest

from edgesaway.finishing import finished

PAIRS = ((0, 3), (0, 4), (1, 3), (2, 3))
SINGLE = ((0,), (2,), (5,))


class Finishing(unittest.TestCase):
    def test_all_and_count(self):
        for table in (PAIRS, SINGLE, ((),), ()):
            self.assertEqual(finished(table, ("all",)), table)
            self.assertEqual(finished(table, ("count",)), len(table))

    def test_first(self):
        for table in (PAIRS, SINGLE, ((),), ()):
            self.assertEqual(finished(table, ("first", 0)), ())
            self.assertEqual(finished(table, ("first", 1)), table[:1])
            self.assertEqual(finished(table, ("first", len(table))), table)
            self.assertEqual(finished(table, ("first", 1000)), table)
        self.assertEqual(finished(PAIRS, ("first", 3)), ((0, 3), (0, 4), (1, 3)))

    def test_by(self):
        self.assertEqual(finished(PAIRS, ("by", 0)), ((0, 2), (1, 1), (2, 1)))
        self.assertEqual(finished(PAIRS, ("by", 1)), ((3, 3), (4, 1)))
        self.assertEqual(finished(((0, 9), (1, 3), (2, 9)), ("by", 1)), ((3, 1), (9, 2)))
        self.assertEqual(finished(SINGLE, ("by", 0)), ((0, 1), (2, 1), (5, 1)))
        self.assertEqual(finished((), ("by", 1)), ())

    def test_only(self):
        self.assertEqual(finished(PAIRS, ("only", 0)), (0, 1, 2))
        self.assertEqual(finished(((0, 9), (1, 3), (2, 9)), ("only", 1)), (3, 9))
        self.assertEqual(finished(SINGLE, ("only", 0)), (0, 2, 5))
        self.assertEqual(finished((), ("only", 0)), ())


if __name__ == "__main__":
    unittest.main()
