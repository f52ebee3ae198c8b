"""What the tests of stores share: a disk that tells what it was asked for, and a store told word by word."""

from edgesaway.disks import Disk
from tests.support import all_edges, fits_rules, price_of_changes

# One kind of six nodes; the labels 0 to 2 change for 1, 2 and 3, label 3 is firm.
PLAIN = ("schema", (("n", 6),), (
    ("p", 0, 0, 1, "many"), ("q", 0, 0, 2, "single"), ("r", 0, 0, 3, "many"), ("f", 0, 0, 0, "many"),
))


class ToldDisk(Disk):
    """A disk that keeps all writes and syncs that it was asked for."""

    def __init__(self, many):
        Disk.__init__(self, many)
        self.deeds = []

    def write(self, at, block):
        self.deeds.append(("write", at, block))
        Disk.write(self, at, block)

    def sync(self):
        self.deeds.append(("sync",))
        Disk.sync(self)

    def new_deeds(self):
        deeds, self.deeds = self.deeds, []
        return deeds


class PlainStore:
    """The writes and syncs of a store as [40] to [44] tell them."""

    def __init__(self, schema, graph, pages, logs, lead, number=0, position=0):
        self.schema, self.graph = schema, graph
        self.pages, self.logs, self.lead = pages, logs, lead
        self.number, self.position = number, position
        self.log = []
        self.deeds = []
        self.checkpoint()

    def checkpoint(self):
        self.number += 1
        pages = [self.graph[at:at + 8] for at in range(0, len(self.graph), 8)]
        half = 2 + (self.pages if self.number % 2 else 0)
        for at, edges in enumerate(pages):
            self.deeds.append(("write", half + at, ("page", self.number, edges)))
        self.deeds.append(("sync",))
        firsts = tuple(edges[0] for edges in pages)
        root = ("root", self.number, self.schema, self.pages, self.logs, self.lead, self.position, firsts)
        self.deeds.append(("write", self.number % 2, root))
        self.deeds.append(("sync",))
        self.log = []

    def commit(self, changes):
        price = price_of_changes(self.schema, changes)
        logged = sum(price_of_changes(self.schema, block[5]) for block in self.log)
        parts = [changes[at:at + 4] for at in range(0, len(changes), 4)]
        if not parts:
            return
        if logged + price > self.lead or len(self.log) + len(parts) > self.logs:
            self.checkpoint()
        self.position += 1
        for part, some in enumerate(parts):
            block = ("log", self.number, self.position, part, len(parts), some)
            self.deeds.append(("write", 2 + 2 * self.pages + len(self.log), block))
            self.log.append(block)
        self.graph = graph_told(self.graph, changes)

    def sync(self):
        self.deeds.append(("sync",))

    def reopened(self):
        """The store that is opened behind this one."""
        return PlainStore(self.schema, self.graph, self.pages, self.logs, self.lead, self.number, self.position)

    @property
    def room(self):
        return self.logs - len(self.log)

    @property
    def logged(self):
        return sum(price_of_changes(self.schema, block[5]) for block in self.log)

    def new_deeds(self):
        deeds, self.deeds = self.deeds, []
        return deeds


def graph_told(graph, changes):
    """The graph behind changes that are all done."""
    edges = set(graph)
    for word, *edge in changes:
        if word == "put":
            edges.add(tuple(edge))
        else:
            edges.remove(tuple(edge))
    return tuple(sorted(edges))


def some_changes(schema, graph, chance, many, most):
    """Up to so many changes that are done one behind the other, of at most a price altogether."""
    changes = []
    edges = [edge for edge in all_edges(schema) if schema[2][edge[1]][3] > 0]
    spent = 0
    for _ in range(many):
        edge = chance.choice(edges)
        there = edge in graph
        spent += schema[2][edge[1]][3]
        if spent > most:
            break
        if not there and not fits_rules(schema, [*graph, edge]):
            continue
        changes.append(("take" if there else "put", *edge))
        graph = graph_told(graph, changes[-1:])
    return tuple(changes)
