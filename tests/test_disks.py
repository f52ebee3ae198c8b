"""Disks: [2], [39]."""

import unittest

from edgesaway.disks import Disk
from edgesaway.errors import BadPlace, CutOff
from tests.support import by_chance, raised

A, B, C, D = ("a",), ("b", 1), ("c", (2,)), ("d", None)


class PlainDisk:
    """A disk told word by word: the plates, and a list of the writes that wait."""

    def __init__(self, many):
        self.plates = [None] * many
        self.waits = []
        self.fuse = None
        self.reads = 0

    def read(self, at):
        self.reads += 1
        told = [block for place, block in self.waits if place == at]
        return told[-1] if told else self.plates[at]

    def burnt(self):
        """Whether the fuse is used up by what is asked for."""
        if self.fuse and self.fuse[0] == 0:
            mask = self.fuse[1]
            self.fuse = None
            self.cut(mask)
            return True
        if self.fuse:
            self.fuse = (self.fuse[0] - 1, self.fuse[1])
        return False

    def write(self, at, block):
        if self.burnt():
            return False
        self.waits.append((at, block))
        return True

    def sync(self):
        if self.burnt():
            return False
        self.cut(2 ** len(self.waits) - 1)
        return True

    def cut(self, mask):
        bits = f"{mask:b}"[::-1]
        for (place, block), bit in zip(self.waits, bits):
            if bit == "1":
                self.plates[place] = block
        self.waits = []


class Disks(unittest.TestCase):
    def test_at_first(self):
        disk = Disk(3)
        self.assertEqual((disk.size, disk.plates, disk.waiting, disk.reads, disk.fuse), (3, (None,) * 3, 0, 0, None))
        self.assertIsNone(disk.read(2))
        self.assertEqual(disk.reads, 1)
        self.assertEqual((Disk(1).size, Disk(200).size), (1, 200))

    def test_of_blocks(self):
        blocks = (A, None, B)
        disk = Disk.of(blocks)
        self.assertIsInstance(disk, Disk)
        self.assertEqual((disk.size, disk.plates, disk.waiting, disk.reads, disk.fuse), (3, blocks, 0, 0, None))
        self.assertEqual([disk.read(at) for at in range(3)], list(blocks))
        disk.write(0, C)
        disk.cut(0)
        self.assertEqual((disk.read(0), disk.plates), (A, blocks))

    def test_reads_of_waiting_writes(self):
        disk = Disk(2)
        self.assertIsNone(disk.write(1, A))
        self.assertEqual((disk.read(1), disk.plates, disk.waiting), (A, (None, None), 1))
        disk.write(1, B)
        disk.write(0, C)
        disk.write(1, None)
        self.assertEqual((disk.read(1), disk.read(0), disk.plates, disk.waiting), (None, C, (None, None), 4))
        disk.write(1, D)
        self.assertIsNone(disk.sync())
        self.assertEqual((disk.plates, disk.waiting, disk.read(1)), ((C, D), 0, D))

    def test_masks(self):
        for mask, plates in (
            (0, (A, None, None)), (1, (B, None, None)), (2, (A, C, None)), (4, (D, None, None)), (5, (D, None, None)),
            (3, (B, C, None)), (7, (D, C, None)), (8, (A, None, None)), (1023, (D, C, None)), (1 << 90, (A, None, None)),
        ):
            disk = Disk.of((A, None, None))
            for at, block in ((0, B), (1, C), (0, D)):
                disk.write(at, block)
            self.assertIsNone(disk.cut(mask))
            self.assertEqual((disk.plates, disk.waiting), (plates, 0))
            self.assertEqual(tuple(disk.read(at) for at in range(3)), plates)

    def test_several_cuts(self):
        disk = Disk(2)
        disk.write(0, A)
        disk.cut(0)
        disk.write(1, B)
        disk.cut(1)
        self.assertEqual(disk.plates, (None, B))
        disk.cut(7)
        self.assertEqual(disk.plates, (None, B))

    def test_a_fuse_of_zero(self):
        for call in (lambda disk: disk.write(1, C), lambda disk: disk.sync()):
            disk = Disk(2)
            disk.write(0, A)
            disk.write(1, B)
            self.assertIsNone(disk.set_fuse(0, 2))
            self.assertEqual(disk.fuse, 0)
            raised(CutOff, call, disk)
            self.assertEqual((disk.plates, disk.waiting, disk.fuse), ((None, B), 0, None))
            disk.write(0, D)
            disk.sync()
            self.assertEqual(disk.plates, (D, B))

    def test_writes_and_syncs_are_counted_together(self):
        disk = Disk(2)
        disk.set_fuse(3, 1)
        disk.write(0, A)
        self.assertEqual(disk.fuse, 2)
        disk.sync()
        self.assertEqual(disk.fuse, 1)
        disk.read(0)
        disk.write(1, B)
        self.assertEqual((disk.fuse, disk.reads), (0, 1))
        raised(CutOff, disk.sync)
        self.assertEqual((disk.plates, disk.fuse, disk.waiting), ((A, B), None, 0))

    def test_a_second_fuse(self):
        disk = Disk(2)
        disk.set_fuse(0, 0)
        disk.set_fuse(1, 1)
        disk.write(0, A)
        self.assertEqual(disk.fuse, 0)
        raised(CutOff, disk.write, 1, B)
        self.assertEqual(disk.plates, (A, None))

    def test_a_cut_leaves_the_fuse(self):
        disk = Disk(2)
        disk.set_fuse(2, 1)
        disk.write(0, A)
        disk.cut(0)
        self.assertEqual((disk.fuse, disk.plates), (1, (None, None)))
        disk.write(0, B)
        raised(CutOff, disk.write, 1, C)
        self.assertEqual(disk.plates, (B, None))

    def test_bad_places(self):
        disk = Disk(2)
        disk.write(0, A)
        disk.set_fuse(0, 1)
        for at in (-1, 2, 200, -1000):
            self.assertEqual(raised(BadPlace, disk.read, at).at, at)
            self.assertEqual(raised(BadPlace, disk.write, at, B).at, at)
        # Nothing has changed, and no read was counted; the fuse still waits for the next write.
        self.assertEqual((disk.reads, disk.fuse, disk.waiting, disk.plates), (0, 0, 1, (None, None)))
        raised(CutOff, disk.write, 1, B)

    def test_by_chance(self):
        chance = by_chance(391)
        cuts = 0
        for _ in range(150):
            many = chance.randrange(1, 4)
            disk, plain = Disk(many), PlainDisk(many)
            for _ in range(30):
                word = chance.choice(("read", "write", "write", "write", "sync", "cut", "fuse"))
                at, block, mask = chance.randrange(many), chance.choice((A, B, C, D, None)), chance.randrange(32)
                if word == "read":
                    self.assertEqual(disk.read(at), plain.read(at))
                elif word == "cut":
                    disk.cut(mask)
                    plain.cut(mask)
                elif word == "fuse":
                    left = chance.randrange(6)
                    disk.set_fuse(left, mask)
                    plain.fuse = (left, mask)
                elif plain.write(at, block) if word == "write" else plain.sync():
                    self.assertIsNone(disk.write(at, block) if word == "write" else disk.sync())
                else:
                    cuts += 1
                    raised(CutOff, *((disk.write, at, block) if word == "write" else (disk.sync,)))
                self.assertEqual((disk.plates, disk.waiting), (tuple(plain.plates), len(plain.waits)))
                self.assertEqual((disk.reads, disk.fuse), (plain.reads, plain.fuse[0] if plain.fuse else None))
        self.assertGreater(cuts, 100)


if __name__ == "__main__":
    unittest.main()
