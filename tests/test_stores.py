"""Stores: [6], [39] to [44]."""

import itertools
import unittest

from edgesaway.disks import Disk
from edgesaway.errors import BadEdge, CutOff, Firm, Gone, Held, NoStore, There, TooLarge
from edgesaway.stores import Store
from tests.stored import PLAIN, PlainStore, ToldDisk, graph_told, some_changes
from tests.support import by_chance, price_of_changes, raised, some_graph

GRAPH = ((0, 0, 1), (0, 1, 2), (1, 3, 1))
PUT = ("put", 2, 0, 2)


def puts(many, label=0):
    return tuple(("put", at // 6, label, at % 6) for at in range(many))


def founded(graph=GRAPH, pages=2, logs=3, lead=10, size=None):
    disk = ToldDisk(2 + 2 * pages + logs if size is None else size)
    return Store.founded(disk, PLAIN, graph, pages=pages, logs=logs, lead=lead), disk


def state_of(store):
    return store.schema, store.graph, store.position, store.newest, store.room, store.logged


class Founding(unittest.TestCase):
    def test_what_is_written(self):
        graph = some_graph(PLAIN, by_chance(411), 20)
        store, disk = founded(graph, pages=3, logs=2, lead=7)
        pages = [("page", 1, graph[:8]), ("page", 1, graph[8:16]), ("page", 1, graph[16:])]
        root = ("root", 1, PLAIN, 3, 2, 7, 0, (graph[0], graph[8], graph[16]))
        self.assertEqual(disk.new_deeds(), [
            ("write", 5, pages[0]), ("write", 6, pages[1]), ("write", 7, pages[2]), ("sync",),
            ("write", 1, root), ("sync",),
        ])
        self.assertEqual(disk.plates, (None, root, None, None, None, *pages, None, None))
        self.assertEqual(state_of(store), (PLAIN, graph, 0, 1, 2, 0))
        self.assertIsInstance(store, Store)

    def test_no_edges(self):
        store, disk = founded(())
        self.assertEqual(disk.new_deeds(), [("sync",), ("write", 1, ("root", 1, PLAIN, 2, 3, 10, 0, ())), ("sync",)])
        self.assertEqual(store.graph, ())

    def test_too_large(self):
        disk = Disk(2 + 2 * 2 + 3 - 1)
        nine = some_graph(PLAIN, by_chance(412), 9)
        for graph, pages, part in ((GRAPH, 2, "disk"), (nine, 2, "disk"), (nine, 1, "pages")):
            error = raised(TooLarge, lambda: Store.founded(disk, PLAIN, graph, pages=pages, logs=3, lead=1))
            self.assertEqual(error.part, part)
        # Of two errors the one of the disk comes first.
        error = raised(TooLarge, lambda: Store.founded(Disk(2), PLAIN, nine, pages=1, logs=1, lead=1))
        self.assertEqual(error.part, "disk")
        self.assertEqual((disk.plates, disk.waiting), ((None,) * 8, 0))

    def test_a_larger_disk(self):
        store, disk = founded(pages=1, logs=1, size=9)
        store.commit((PUT,))
        self.assertEqual(disk.new_deeds()[-1], ("write", 4, ("log", 1, 1, 0, 1, (PUT,))))

    def test_cut_off(self):
        """A founding that is cut off leaves a store only if the root has reached the plates."""
        for left, mask in itertools.product(range(4), range(4)):
            disk = Disk(9)
            disk.set_fuse(left, mask)
            raised(CutOff, lambda: Store.founded(disk, PLAIN, GRAPH, pages=2, logs=3, lead=10))
            if left == 3 and mask % 2:
                self.assertEqual(Store.opened(disk).graph, GRAPH)
            else:
                raised(NoStore, Store.opened, disk)


class Errors(unittest.TestCase):
    def check_error(self, store, disk, kind, told, changes):
        ahead = (state_of(store), disk.plates, disk.waiting)
        error = raised(kind, store.commit, changes)
        self.assertEqual([*vars(error).values()], [told])
        self.assertEqual((state_of(store), disk.plates, disk.waiting), ahead)
        self.assertEqual(disk.new_deeds(), [])

    def test_of_changes(self):
        store, disk = founded()
        disk.new_deeds()
        for kind, told, change in (
            (BadEdge, (6, 0, 0), ("put", 6, 0, 0)), (BadEdge, (0, 4, 0), ("take", 0, 4, 0)),
            (BadEdge, (-1, 3, 0), ("take", -1, 3, 0)), (Firm, "f", ("put", 0, 3, 0)), (Firm, "f", ("take", 1, 3, 1)),
            (There, (0, 0, 1), ("put", 0, 0, 1)), (There, (0, 1, 2), ("put", 0, 1, 2)),
            (Held, (0, 1, 2), ("put", 0, 1, 3)), (Gone, (0, 0, 2), ("take", 0, 0, 2)),
        ):
            self.check_error(store, disk, kind, told, (change,))
            self.check_error(store, disk, kind, told, (PUT, change))
            self.check_error(store, disk, kind, told, (change, ("put", 9, 9, 9)))
            # The error of a change goes ahead of what is too large.
            self.check_error(store, disk, kind, told, (*puts(5, 2)[:4], change))

    def test_each_change_behind_those_ahead(self):
        store, disk = founded()
        disk.new_deeds()
        self.check_error(store, disk, There, (2, 0, 2), (PUT, PUT))
        self.check_error(store, disk, Gone, (0, 1, 2), (("take", 0, 1, 2), ("take", 0, 1, 2)))
        self.check_error(store, disk, Held, (0, 1, 3), (("take", 0, 1, 2), ("put", 0, 1, 3), ("put", 0, 1, 4)))
        store.commit((("take", 0, 1, 2), ("put", 0, 1, 3)))
        self.assertEqual(store.graph, ((0, 0, 1), (0, 1, 3), (1, 3, 1)))

    def test_too_large(self):
        store, disk = founded(pages=1, logs=2, lead=10)
        disk.new_deeds()
        # The price is told of all changes, also of those that take one another back.
        self.check_error(store, disk, TooLarge, "commit", puts(4, 2))
        dear = tuple((word, 3, 2, 3) for word in ("put", "take") * 2)
        self.check_error(store, disk, TooLarge, "commit", dear)
        many = tuple((word, 2, 0, 2) for word in ("put", "take") * 5)
        self.check_error(store, disk, TooLarge, "commit", many[:9])
        self.check_error(store, disk, TooLarge, "pages", tuple(("put", at, 0, 0) for at in range(6)))
        # A commit that is too large and needs too many pages.
        self.check_error(store, disk, TooLarge, "commit", (*puts(3, 2), *[("put", at, 0, 0) for at in range(6)]))
        store.commit(many[:8])
        self.assertEqual((store.position, store.graph), (1, GRAPH))

    def test_just_as_much_as_goes(self):
        store, disk = founded(pages=1, logs=2, lead=9)
        store.commit(puts(3, 2))
        self.assertEqual((store.logged, store.room), (9, 1))
        full = some_graph(PLAIN, by_chance(413), 8)
        store, disk = founded(full, pages=1, logs=1, lead=100)
        free = [("put", x, 0, y) for x in range(6) for y in range(6) if (x, 0, y) not in full][0]
        disk.new_deeds()
        self.check_error(store, disk, TooLarge, "pages", (free,))
        taken = ("take", *[edge for edge in full if edge[1] != 3][0])
        store.commit((taken, free))
        store.commit(())
        self.assertEqual(store.position, 1)


class Deeds(unittest.TestCase):
    def test_no_changes(self):
        store, disk = founded()
        disk.new_deeds()
        ahead = state_of(store)
        self.assertIsNone(store.commit(()))
        self.assertEqual((state_of(store), disk.new_deeds()), (ahead, []))

    def test_a_commit(self):
        store, disk = founded()
        disk.new_deeds()
        changes = (*puts(1), ("take", 0, 0, 1), *puts(3)[2:], ("take", 0, 1, 2), ("put", 0, 1, 1))
        self.assertIsNone(store.commit(changes))
        self.assertEqual(disk.new_deeds(), [
            ("write", 6, ("log", 1, 1, 0, 2, changes[:4])), ("write", 7, ("log", 1, 1, 1, 2, changes[4:])),
        ])
        self.assertEqual(state_of(store), (PLAIN, ((0, 0, 0), (0, 0, 2), (0, 1, 1), (1, 3, 1)), 1, 1, 1, 7))
        self.assertEqual(disk.waiting, 2)
        self.assertIsNone(store.sync())
        self.assertEqual((disk.new_deeds(), disk.waiting), ([("sync",)], 0))

    def test_a_checkpoint_for_the_price(self):
        store, disk = founded(lead=5)
        store.commit((("put", 0, 2, 0),))
        store.commit((("take", 0, 1, 2),))
        self.assertEqual((store.logged, store.room, store.newest), (5, 1, 1))
        graph = store.graph
        disk.new_deeds()
        store.commit((PUT,))
        root = ("root", 2, PLAIN, 2, 3, 5, 2, graph[:1])
        self.assertEqual(disk.new_deeds(), [
            ("write", 2, ("page", 2, graph)), ("sync",), ("write", 0, root), ("sync",),
            ("write", 6, ("log", 2, 3, 0, 1, (PUT,))),
        ])
        self.assertEqual(state_of(store)[2:], (3, 2, 2, 1))

    def test_a_checkpoint_for_the_blocks(self):
        store, disk = founded(lead=100)
        store.commit((("put", 0, 2, 0),))
        store.commit((("take", 0, 2, 0),))
        disk.new_deeds()
        store.commit(tuple((word, 2, 0, 2) for word in ("put", "take", "put", "take", "put")))
        self.assertEqual([deed[:2] for deed in disk.new_deeds()],
                         [("write", 2), ("sync",), ("write", 0), ("sync",), ("write", 6), ("write", 7)])
        self.assertEqual(state_of(store)[2:], (3, 2, 1, 5))

    def test_a_checkpoint(self):
        store, disk = founded()
        store.commit((PUT,))
        disk.new_deeds()
        self.assertIsNone(store.checkpoint())
        graph = store.graph
        self.assertEqual(disk.new_deeds(), [
            ("write", 2, ("page", 2, graph)), ("sync",),
            ("write", 0, ("root", 2, PLAIN, 2, 3, 10, 1, (graph[0],))), ("sync",),
        ])
        self.assertEqual(state_of(store), (PLAIN, graph, 1, 2, 3, 0))
        store.checkpoint()
        self.assertEqual([deed[:2] for deed in disk.new_deeds()], [("write", 4), ("sync",), ("write", 1), ("sync",)])
        self.assertEqual(state_of(store), (PLAIN, graph, 1, 3, 3, 0))

    def test_opening(self):
        store, disk = founded()
        store.commit((PUT,))
        store.commit((("take", 0, 0, 1),))
        store.sync()
        disk.new_deeds()
        again = Store.opened(disk)
        self.assertEqual(state_of(again), (PLAIN, store.graph, 2, 2, 3, 0))
        self.assertEqual(disk.new_deeds(), [
            ("write", 2, ("page", 2, store.graph)), ("sync",),
            ("write", 0, ("root", 2, PLAIN, 2, 3, 10, 2, (store.graph[0],))), ("sync",),
        ])

    def test_opening_without_a_sync(self):
        """What waits can be read, so it is in force, and the checkpoint makes it safe."""
        store, disk = founded()
        store.commit((PUT,))
        again = Store.opened(disk)
        disk.cut(0)
        self.assertEqual((again.graph, again.position), (store.graph, 1))
        self.assertEqual(Store.opened(disk).graph, store.graph)

    def test_no_store(self):
        for many in (1, 2, 9):
            disk = Disk(many)
            raised(NoStore, Store.opened, disk)
            self.assertEqual((disk.plates, disk.waiting), ((None,) * many, 0))
        page = ("page", 1, GRAPH)
        raised(NoStore, Store.opened, Disk.of((None, None, page, page, None)))

    def test_one_root(self):
        store, disk = founded()
        store.checkpoint()
        one, two = disk.plates[1], disk.plates[0]
        self.assertEqual((one[1], two[1]), (1, 2))
        for first, second, newest in ((two, None, 3), (None, one, 2), (two, one, 3)):
            self.assertEqual(Store.opened(Disk.of((first, second, *disk.plates[2:]))).newest, newest)

    def test_by_chance(self):
        chance = by_chance(414)
        checkpoints = 0
        for _ in range(60):
            pages, logs, lead = chance.randrange(1, 5), chance.randrange(1, 6), chance.randrange(4, 15)
            graph = some_graph(PLAIN, chance, chance.randrange(pages * 8 + 1))
            store, disk = founded(graph, pages, logs, lead)
            plain = PlainStore(PLAIN, graph, pages, logs, lead)
            for _ in range(25):
                word = chance.choice(("commit",) * 6 + ("sync", "checkpoint", "open"))
                if word == "commit":
                    changes = some_changes(PLAIN, store.graph, chance, min(9, 4 * logs), lead)
                    if len(graph_told(store.graph, changes)) <= 8 * pages:
                        store.commit(changes)
                        plain.commit(changes)
                elif word == "open":
                    store = Store.opened(disk)
                    plain = plain.reopened()
                    disk.deeds = disk.deeds[-len(plain.deeds):]
                elif word == "sync":
                    store.sync()
                    plain.sync()
                else:
                    store.checkpoint()
                    plain.checkpoint()
                checkpoints += word == "commit" and len(plain.deeds) > 3
                self.assertEqual(disk.new_deeds(), plain.new_deeds())
                told = (plain.graph, plain.position, plain.number, plain.room, plain.logged)
                self.assertEqual(state_of(store)[1:], told)
                self.assertLessEqual(store.logged, lead)
        self.assertGreater(checkpoints, 100)


# Deeds with all that can be cut off: commits of one and several blocks, checkpoints because of the price and of the
# blocks, a sync, a checkpoint, an opening.
SCRIPT = (
    ("commit", (("put", 1, 0, 0),)), ("commit", (("take", 0, 0, 1), ("put", 0, 2, 0))), ("sync",),
    ("commit", puts(5)[2:] + (("put", 3, 1, 3), ("take", 0, 1, 2))), ("commit", (("put", 4, 0, 4),)), ("open",),
    ("commit", (("put", 5, 0, 5), ("put", 5, 0, 4), ("put", 5, 0, 3), ("put", 5, 0, 2), ("put", 5, 0, 1))),
    ("checkpoint",), ("commit", (("take", 5, 0, 5),)), ("commit", (("take", 5, 0, 4),)),
    ("commit", (("put", 5, 2, 5), ("take", 5, 0, 3))), ("commit", (("take", 5, 0, 2),)), ("sync",),
)


class Run:
    """A run of the script on a disk with a fuse, with the graphs behind all commits and how many are safe."""

    def __init__(self, left, mask):
        self.disk = Disk(9)
        self.store = Store.founded(self.disk, PLAIN, GRAPH, pages=2, logs=3, lead=10)
        self.graphs = [GRAPH]
        self.safe = 0
        self.whole = False
        self.disk.set_fuse(left, mask)
        try:
            for word, *more in SCRIPT:
                self.do(word, *more)
            self.whole = True
        except CutOff:
            pass

    def do(self, word, changes=()):
        if word == "commit":
            self.graphs.append(graph_told(self.graphs[-1], changes))
            newest = self.store.newest
            self.store.commit(changes)
            if self.store.newest > newest:
                self.safe = len(self.graphs) - 2
        elif word == "sync":
            self.store.sync()
            self.safe = len(self.graphs) - 1
        elif word == "open":
            self.store = Store.opened(self.disk)
            self.safe = len(self.graphs) - 1
        else:
            self.store.checkpoint()
            self.safe = len(self.graphs) - 1


class CutOffs(unittest.TestCase):
    def check_opened(self, run, store):
        self.assertLess(store.position, len(run.graphs))
        self.assertGreaterEqual(store.position, run.safe)
        self.assertEqual(store.graph, run.graphs[store.position])

    def test_at_each_write_and_sync(self):
        left = 0
        kept = set()
        while not Run(left, 0).whole:
            for mask in (*range(16), 2 ** 60 - 1, *[1 << bit for bit in range(4, 9)]):
                run = Run(left, mask)
                self.assertFalse(run.whole)
                plates = run.disk.plates
                store = Store.opened(run.disk)
                self.check_opened(run, store)
                kept.add(len(run.graphs) - 1 - store.position)
                # Equal disks give equal stores, and what was opened stays.
                self.assertEqual(state_of(Store.opened(Disk.of(plates))), state_of(store))
                again = Store.opened(Disk.of(run.disk.plates))
                self.assertEqual((again.graph, again.position), (store.graph, store.position))
            left += 1
        self.assertGreater(left, 25)
        self.assertLessEqual({0, 1, 2, 3}, kept)

    def test_cut_off_again_while_it_is_opened(self):
        for left in range(0, 31, 2):
            for mask in (0, 1, 2, 5, 7):
                run = Run(left, mask)
                plates = run.disk.plates
                told = Store.opened(Disk.of(plates))
                for row in itertools.product(range(5), (0, 1, 3), range(0, 5, 2), (0, 1)):
                    disk = Disk.of(plates)
                    for at in (0, 2):
                        disk.set_fuse(row[at], row[at + 1])
                        try:
                            Store.opened(disk)
                        except CutOff:
                            pass
                    disk.set_fuse(100, 0)
                    store = Store.opened(disk)
                    self.assertEqual((store.graph, store.position), (told.graph, told.position))

    def test_old_log_blocks_are_never_taken_again(self):
        """A commit that was lost does not come back, though a block behind it has reached the plates."""
        store, disk = founded()
        store.commit((PUT,))
        store.commit((("take", 0, 0, 1),))
        disk.cut(2)
        store = Store.opened(disk)
        self.assertEqual((store.graph, store.position), (GRAPH, 0))
        store.commit((("put", 3, 0, 3),))
        store.sync()
        store = Store.opened(disk)
        self.assertEqual((store.graph, store.position), ((*GRAPH, (3, 0, 3)), 1))

    def test_the_price_of_the_log(self):
        """[42]: the price of the log since a root is never more than lead, wherever the disk is cut off."""
        for left in range(0, 31, 3):
            run = Run(left, 2 ** 60 - 1)
            plates = run.disk.plates
            root = max(block for block in plates[:2] if block)
            log = [block for block in plates[6:] if block and block[1] == root[1]]
            self.assertLessEqual(sum(price_of_changes(PLAIN, block[5]) for block in log), 10)


if __name__ == "__main__":
    unittest.main()
