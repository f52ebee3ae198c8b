"""The log: [40], [44]."""

import unittest

from edgesaway.logs import log_blocks, taken_commits
from tests.support import by_chance

ROOT = ("root", 3, ("schema", (("n", 1),), (("p", 0, 0, 1, "many"),)), 1, 5, 9, 2, ())
PAGE = ("page", 3, ((0, 0, 0),))


def changes_of(many, first=0):
    return tuple(("put", at % 24, 0, at // 24) for at in range(first, first + many))


class Blocks(unittest.TestCase):
    def test_numbers_of_changes(self):
        for many, lengths in ((1, [1]), (3, [3]), (4, [4]), (5, [4, 1]), (8, [4, 4]), (9, [4, 4, 1]), (100, [4] * 25)):
            changes = changes_of(many)
            blocks = log_blocks(7, 12, changes)
            self.assertEqual([len(block[5]) for block in blocks], lengths)
            self.assertEqual([block[:5] for block in blocks],
                             [("log", 7, 12, part, len(lengths)) for part in range(len(lengths))])
            self.assertEqual(tuple(change for block in blocks for change in block[5]), changes)

    def test_a_whole_block(self):
        changes = (("take", 0, 0, 1), ("put", 0, 0, 2))
        self.assertEqual(log_blocks(1, 1, changes), (("log", 1, 1, 0, 1, changes),))


class Taken(unittest.TestCase):
    def setUp(self):
        self.commits = (changes_of(2), changes_of(9, 10), changes_of(4, 30))
        self.rows = [log_blocks(3, position, changes) for position, changes in enumerate(self.commits, 6)]
        self.blocks = tuple(block for row in self.rows for block in row)

    def taken(self, blocks):
        return len(taken_commits(tuple(blocks), 3, 5))

    def test_all(self):
        self.assertEqual(taken_commits(self.blocks, 3, 5), self.commits)
        self.assertEqual(taken_commits((*self.blocks, None, None), 3, 5), self.commits)
        self.assertEqual(taken_commits((), 3, 5), ())
        self.assertEqual(taken_commits((None, *self.blocks), 3, 5), ())

    def test_another_root_or_position(self):
        for number, position in ((2, 5), (4, 5), (3, 4), (3, 6), (3, 0)):
            self.assertEqual(taken_commits(self.blocks, number, position), ())

    def test_behind_commits_of_another_root(self):
        """The newest log has overwritten the beginning of the one ahead of it."""
        new = log_blocks(4, 9, changes_of(1))
        self.assertEqual(taken_commits((*new, *self.blocks[1:]), 4, 8), (changes_of(1),))
        self.assertEqual(self.taken((*new, *self.blocks[1:])), 0)
        self.assertEqual(self.taken((*self.blocks[:4], *new)), 2)

    def test_a_part_that_is_missing(self):
        first, second, third = self.rows
        self.assertEqual(self.taken((*first, second[1], second[2], *third)), 1)
        self.assertEqual(self.taken((*first, second[0], None, second[2], *third)), 1)
        self.assertEqual(self.taken((*first, second[0], second[2], *third)), 1)
        self.assertEqual(self.taken((*first, *third)), 1)

    def test_a_part_that_is_doubled(self):
        first, second, third = self.rows
        self.assertEqual(self.taken((*first, second[0], second[0], *second[1:], *third)), 1)
        self.assertEqual(self.taken((*first, *first, *second)), 1)
        self.assertEqual(self.taken((*first, *second, second[2], *third)), 2)

    def test_a_part_of_another_position(self):
        first, second, third = self.rows
        other = log_blocks(3, 8, changes_of(9, 10))
        self.assertEqual(self.taken((*first, second[0], other[1], *second[2:], *third)), 1)
        self.assertEqual(self.taken((*second, *third)), 0)
        self.assertEqual(self.taken((*first, *other, *third)), 1)

    def test_roots_and_pages_among_them(self):
        for block in (ROOT, PAGE, None):
            for at, many in enumerate((0, 1, 1, 1, 2)):
                self.assertEqual(self.taken((*self.blocks[:at], block, *self.blocks[at:])), many)
            self.assertEqual(self.taken((*self.blocks, block)), 3)

    def test_a_last_commit_that_is_not_complete(self):
        for many in range(len(self.blocks) + 1):
            told = taken_commits(self.blocks[:many], 3, 5)
            self.assertEqual(told, self.commits[:(0, 1, 1, 1, 2, 3)[many]])
            self.assertEqual(taken_commits((*self.blocks[:many], None), 3, 5), told)

    def test_by_chance(self):
        chance = by_chance(441)
        for _ in range(300):
            commits = [changes_of(chance.randrange(1, 10), at) for at in range(chance.randrange(5))]
            blocks = [block for at, changes in enumerate(commits, 1) for block in log_blocks(2, at, changes)]
            ends = [at for at, block in enumerate(blocks, 1) if block[3] == block[4] - 1]
            bad = chance.randrange(len(blocks) + 2)
            if bad < len(blocks):
                number, position, part, parts, changes = blocks[bad][1:]
                blocks[bad] = chance.choice((
                    None, ROOT, PAGE, ("log", number + 1, position, part, parts, changes),
                    ("log", number, position + 1, part, parts, changes), ("log", number, position, part + 1, parts, changes),
                ))
            whole = len([end for end in ends if end <= bad])
            self.assertEqual(taken_commits(tuple(blocks), 2, 0), tuple(commits[:whole]))


if __name__ == "__main__":
    unittest.main()
