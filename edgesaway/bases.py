"""Bases: a graph with a past, meters of what was changed, and deals that are begun at it."""

from edgesaway.deals import Deal
from edgesaway.errors import TooMany
from edgesaway.graphs import changed, check_many, difference
from edgesaway.schemas import label_price

MOST_DEALS = 12


class Base:
    """A base, whose graph is its head."""

    def __init__(self, schema, graph):
        self._schema = schema
        self._graphs = [graph]
        self._differences = []
        self._meters = tuple([0 for _ in schema[2]])
        self._asked = 0
        self._deals = []

    @property
    def schema(self):
        """The schema of the graph."""
        return self._schema

    @property
    def graph(self):
        """The head."""
        return self._graphs[-1]

    @property
    def position(self):
        """How many differences were committed."""
        return len(self._differences)

    @property
    def meters(self):
        """For each label the prices of all changes with it that were committed, summed up."""
        return self._meters

    @property
    def asked(self):
        """How many steps of its deals were asked anew."""
        return self._asked

    @property
    def open_deals(self):
        """The number of the open deals."""
        return len(open_ones(self._deals))

    def deal(self):
        """Begin a deal."""
        check_more_deals(self._deals)
        deal = Deal(self)
        self._deals = [*open_ones(self._deals), deal]
        return deal

    def commit(self, changes):
        """Commit changes without a deal, and tell the position."""
        graph = changed(self._schema, self.graph, changes)
        check_many(graph)
        self.advance(graph)
        return self.position

    def difference_at(self, position):
        """The difference that was committed as a position, from 1 on."""
        return self._differences[position - 1]

    def graph_at(self, position):
        """The graph at a position, from 0 on."""
        return self._graphs[position]

    def advance(self, graph):
        """Commit the difference from the head to a graph, if there is any."""
        changes = difference(self.graph, graph)
        if not changes:
            return
        meters = list(self._meters)
        for change in changes:
            meters[change[2]] += label_price(self._schema, change[2])
        self._meters = tuple(meters)
        self._graphs.append(graph)
        self._differences.append(changes)

    def count_anew(self, many):
        """Count steps that were asked anew."""
        self._asked += many

    def end_deals(self):
        """End all open deals."""
        for deal in self._deals:
            deal.drop()


def open_ones(deals):
    """Those of some deals that are not ended."""
    return [deal for deal in deals if not deal.ended]


def check_more_deals(deals):
    """Raise an error if so many deals are open that no more are let."""
    if len(open_ones(deals)) >= MOST_DEALS:
        raise TooMany("deals")
