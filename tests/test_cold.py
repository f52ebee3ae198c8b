"""Cold readers: [30], [39], [42] to [45]."""

import itertools
import unittest

from edgesaway.answers import distance_of
from edgesaway.cold import Cold
from edgesaway.disks import Disk
from edgesaway.errors import CutOff, NoStore
from edgesaway.lags import told_word
from edgesaway.pages import firsts_of, pages_for, pages_of
from edgesaway.stores import Store
from edgesaway.truths import truth_of
from tests.asking import asked, node, rows_told, some_question, unknown, way
from tests.reckon import step
from tests.stored import PLAIN, some_changes
from tests.support import by_chance, raised, some_graph
from tests.test_pages import BROAD
from tests.test_stores import Run

P = asked(way(step(0), unknown(0), unknown(1)), 0, 0)
# Four pages of the broad schema: sources 0 to 2, 2 to 4, 8 to 9, 9 to 15.
EDGES = tuple(sorted(
    [(x, 0, y) for x, y in itertools.product(range(3), range(4))] + [(3, 2, 8), (4, 0, 0), (4, 0, 1), (7, 2, 9)]
    + [(x, 1, y) for x, y in itertools.product((8, 9), range(6))] + [(x, 3, x) for x in range(12, 16)]
))


def stored(schema, graph, lead, logs=8):
    disk = Disk(2 + 2 * 12 + logs)
    return Store.founded(disk, schema, graph, pages=12, logs=logs, lead=lead), disk


class Words(unittest.TestCase):
    def test_distances_around_the_lead(self):
        graph = ((0, 0, 1), (0, 1, 1), (0, 2, 1), (0, 3, 2))
        for lead, words in ((0, "yyyny"), (1, "oyyny"), (2, "ooyny"), (3, "ooony"), (9, "ooooy")):
            cold = Cold(stored(PLAIN, graph, lead)[1])
            told = [cold.told(asked(way(step(label), node(0), node(1))), ()) for label in range(3)]
            told.append(cold.told(asked(way(("then", step(1), step(2)), node(0), node(2))), ()))
            # The missing edge costs 3; what is firm is never otherwise.
            told.append(cold.told(asked(way(step(3), node(0), node(2))), ()))
            letters = {"yes": "y", "no": "n", "open": "o"}
            if lead == 3:
                self.assertEqual(told[3], "open")
            else:
                self.assertEqual("".join(letters[word] for word in told), words)

    def test_tables(self):
        graph = ((0, 0, 1), (0, 2, 2), (3, 3, 4))
        cold = Cold(stored(PLAIN, graph, 1)[1])
        question = asked(("or", (way(step(2), unknown(0), node(2)), way(step(3), unknown(0), node(4)))), 0)
        self.assertEqual(cold.told_rows(question), tuple(
            ((at,), "yes" if at in (0, 3) else "no") for at in range(6)
        ))
        self.assertEqual(cold.told_rows(P), tuple((row, "open") for row in rows_told(PLAIN, P)))
        self.assertEqual(cold.told_rows(asked(way(("stay",), node(0), node(0)))), (((), "yes"),))

    def test_without_the_log(self):
        store, disk = stored(PLAIN, ((0, 0, 1),), 5)
        store.commit((("take", 0, 0, 1), ("put", 0, 2, 1)))
        store.sync()
        cold = Cold(disk)
        self.assertEqual(cold.told(asked(way(step(0), node(0), node(1))), ()), "open")
        self.assertEqual(cold.told(asked(way(step(2), node(0), node(1))), ()), "open")
        store.checkpoint()
        cold = Cold(disk)
        self.assertEqual(cold.told(asked(("not", way(("either", step(0), step(1)), node(1), node(0)))), ()), "open")
        self.assertEqual(cold.schema, PLAIN)
        dear = asked(("and", (way(step(2), node(0), node(1)), way(("then", step(0), step(1)), node(3), node(4)))))
        self.assertEqual(cold.told(dear, ()), "open")
        # Two missing edges of 3 and 3.
        far = asked(("and", (way(step(2), node(3), node(4)), way(("then", step(0), step(1)), node(3), node(4)))))
        self.assertEqual(cold.told(far, ()), "no")


class Reads(unittest.TestCase):
    def test_roots_and_pages(self):
        disk = stored(BROAD, EDGES, 9)[1]
        firsts = firsts_of(pages_of(1, EDGES))
        self.assertEqual(firsts, ((0, 0, 0), (2, 0, 0), (8, 1, 0), (9, 1, 2)))
        ahead = disk.reads
        cold = Cold(disk)
        self.assertEqual((disk.reads - ahead, cold.looked, cold.schema), (2, (), BROAD))
        for label, looked in ((5, (0, 1)), (0, (0, 1)), (3, (0, 1, 2, 3)), (1, (0, 1, 2, 3))):
            question = asked(way(step(label), unknown(0), unknown(1)), *BROAD[2][label][1:3])
            cold.told_rows(question)
            self.assertEqual((cold.looked, disk.reads - ahead), (looked, 2 + len(looked)))
            cold.told_rows(question)
            self.assertEqual(disk.reads - ahead, 2 + len(looked))

    def test_a_second_question(self):
        disk = stored(BROAD, EDGES, 0)[1]
        cold = Cold(disk)
        ahead = disk.reads
        question = asked(way(step(1), node(9), node(5)))
        self.assertEqual((cold.told(question, ()), cold.looked, disk.reads - ahead), ("yes", (1, 2, 3), 3))
        question = asked(("and", (way(step(0), node(0), node(3)), way(step(1), node(9), node(5)))))
        self.assertEqual((cold.told(question, ()), cold.looked, disk.reads - ahead), ("yes", (0, 1, 2, 3), 4))

    def test_no_labels_and_no_pages(self):
        disk = stored(BROAD, EDGES, 9)[1]
        cold = Cold(disk)
        ahead = disk.reads
        cold.told(asked(way(("star", ("stay",)), node(0), node(1))), ())
        cold.told(asked(way(step(4), node(0), node(1))), ())
        self.assertEqual((cold.looked, disk.reads), ((), ahead))
        cold = Cold(stored(BROAD, (), 1)[1])
        self.assertEqual((cold.told(asked(way(step(1), node(9), node(5))), ()), cold.looked), ("no", ()))

    def test_the_newest_root(self):
        store, disk = stored(PLAIN, ((0, 0, 1),), 0)
        for graph in (((0, 0, 1),), ((0, 0, 1),)):
            self.assertEqual(Cold(disk).told(asked(way(step(0), node(0), node(1))), ()), "yes")
            store.checkpoint()
            self.assertEqual(store.graph, graph)
        self.assertEqual(Cold(disk).told(asked(way(step(0), node(0), node(1))), ()), "yes")

    def test_no_store(self):
        for disk in (Disk(9), Disk(1), Disk.of((None, None, ("page", 1, ((0, 0, 1),)), None, None))):
            raised(NoStore, Cold, disk)
        # The reads are counted nevertheless.
        disk = Disk(9)
        raised(NoStore, Cold, disk)
        self.assertEqual(disk.reads, 2)


class Sure(unittest.TestCase):
    def test_against_the_opened_store(self):
        """Wherever the disk was cut off: what is told as sure is so in the store that is opened afterwards."""
        firm = way(step(3), unknown(0), unknown(1))
        questions = [
            asked(("or", (firm, way(("star", step(0)), unknown(0), node(2)))), 0, 0),
            asked(("and", (firm, way(("plus", ("either", step(0), step(2))), node(0), unknown(0)))), 0, 0),
            asked(("not", way(("then", step(0), ("then", step(3), step(1))), unknown(0), node(3))), 0),
        ]
        counts = {"yes": 0, "no": 0, "open": 0}
        for left in range(31):
            for mask in (0, 1, 3, 6, 2 ** 60 - 1):
                disk = Run(left, mask).disk
                cold = Cold(disk)
                told = [(question, cold.told_rows(question)) for question in questions]
                graph = Store.opened(disk).graph
                for question, rows in told:
                    for row, word in rows:
                        counts[word] += 1
                        if word != "open":
                            self.assertEqual(word, truth_of(PLAIN, graph, question, row))
        self.assertGreater(min(counts.values()), 30)

    def test_by_chance(self):
        chance = by_chance(451)
        counts = {"yes": 0, "no": 0, "open": 0}
        less = 0
        for _ in range(60):
            schema = chance.choice((BROAD, BROAD, PLAIN))
            graph = some_graph(schema, chance, chance.randrange(40))
            lead = chance.randrange(7)
            store, disk = stored(schema, graph, lead)
            disk.set_fuse(chance.randrange(2, 9), chance.randrange(16))
            try:
                for _ in range(8):
                    store.commit(some_changes(schema, store.graph, chance, 3, lead))
            except CutOff:
                pass
            disk.set_fuse(100, 0)
            cold = Cold(disk)
            root = max(block for block in disk.plates[:2] if block)
            looked = set()
            told = []
            for _ in range(3):
                question = some_question(schema, chance, chance.randrange(2), 1)
                rows = rows_told(schema, question)
                if not rows:
                    continue
                row = chance.choice(rows)
                word = cold.told(question, row)
                told.append((question, row, word))
                counts[word] += 1
                labels = {label for label in range(len(schema[2])) if f"'step', {label}," in repr(question)}
                looked.update(at for label in labels for at in pages_for(schema, root[7], label))
                self.assertEqual(cold.looked, tuple(sorted(looked)))
                less += len(looked) < len(root[7])
                if root[1] == 1:
                    self.assertEqual(word, told_word(schema, graph, question, row, lead))
                    far = distance_of(schema, graph, question, row)
                    self.assertEqual(word == "open", far is not None and far <= lead)
            graph = Store.opened(disk).graph
            for question, row, word in told:
                self.assertIn(word, ("open", truth_of(schema, graph, question, row)))
        self.assertGreater(min(counts.values()), 8)
        self.assertGreater(less, 10)


if __name__ == "__main__":
    unittest.main()
