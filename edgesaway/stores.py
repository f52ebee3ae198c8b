"""Stores: a graph on a disk, as pages and a log of commits behind them."""

from edgesaway.balls import graph_behind
from edgesaway.errors import TooLarge
from edgesaway.graphs import changed, price_of
from edgesaway.logs import log_blocks, taken_commits
from edgesaway.pages import firsts_of, pages_of
from edgesaway.roots import log_place, newest_root, page_place, places_needed


class Store:
    """A store on a disk; it is made by `founded` and by `opened`."""

    def __init__(self, disk, schema, graph, limits, newest, position):
        self._disk = disk
        self._schema = schema
        self._graph = graph
        self._pages, self._logs, self._lead = limits
        self._newest = newest
        self._position = position
        self._room = self._logs
        self._logged = 0

    @classmethod
    def founded(cls, disk, schema, graph, *, pages, logs, lead):
        """A new store on a disk on which nothing was written yet."""
        if disk.size < places_needed(pages, logs):
            raise TooLarge("disk")
        check_pages(graph, pages)
        # The first root has the number 1, so it is written as a checkpoint behind a root 0 that never was.
        store = cls(disk, schema, graph, (pages, logs, lead), 0, 0)
        store.checkpoint()
        return store

    @classmethod
    def opened(cls, disk):
        """The store that lies on a disk."""
        _, number, schema, pages, logs, lead, position, firsts = newest_root(disk)
        graph = ()
        for at in range(len(firsts)):
            graph = graph + disk.read(page_place(number, pages, at))[2]
        blocks = tuple([disk.read(log_place(pages, at)) for at in range(logs)])
        commits = taken_commits(blocks, number, position)
        for changes in commits:
            graph = graph_behind(graph, changes)
        store = cls(disk, schema, graph, (pages, logs, lead), number, position + len(commits))
        # So that what is left in the log is never taken again.
        store.checkpoint()
        return store

    @property
    def schema(self):
        """The schema of the graph."""
        return self._schema

    @property
    def graph(self):
        """The graph behind all commits."""
        return self._graph

    @property
    def position(self):
        """The number of all commits."""
        return self._position

    @property
    def newest(self):
        """The number of the newest root."""
        return self._newest

    @property
    def room(self):
        """The number of the log blocks that are left."""
        return self._room

    @property
    def logged(self):
        """The price of all changes in the log since the newest root."""
        return self._logged

    def checked(self, changes):
        """The graph behind changes; raises the errors of their commit."""
        graph = changed(self._schema, self._graph, changes)
        parts = log_blocks(self._newest, self._position, changes)
        if price_of(self._schema, changes) > self._lead or len(parts) > self._logs:
            raise TooLarge("commit")
        check_pages(graph, self._pages)
        return graph

    def commit(self, changes):
        """Write a commit into the log, without a sync."""
        graph = self.checked(changes)
        if not changes:
            return
        price = price_of(self._schema, changes)
        needed = len(log_blocks(self._newest, self._position, changes))
        if self._logged + price > self._lead or needed > self._room:
            self.checkpoint()
        first = self._logs - self._room
        for at, block in enumerate(log_blocks(self._newest, self._position + 1, changes)):
            self._disk.write(log_place(self._pages, first + at), block)
        self._graph = graph
        self._position += 1
        self._room -= needed
        self._logged += price

    def sync(self):
        """Make all commits safe."""
        self._disk.sync()

    def checkpoint(self):
        """Write the graph as the pages of a new root, behind which the log begins anew."""
        number = self._newest + 1
        pages = pages_of(number, self._graph)
        for at, page in enumerate(pages):
            self._disk.write(page_place(number, self._pages, at), page)
        self._disk.sync()
        limits = (self._pages, self._logs, self._lead)
        root = ("root", number, self._schema, *limits, self._position, firsts_of(pages))
        self._disk.write(number % 2, root)
        self._disk.sync()
        self._newest = number
        self._room = self._logs
        self._logged = 0


def check_pages(graph, most):
    """Raise an error if a graph needs more than so many pages."""
    if len(pages_of(0, graph)) > most:
        raise TooLarge("pages")
