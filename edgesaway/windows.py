"""Windows: bases seen through a sight, and their deals."""

from edgesaway.bases import check_more_deals, open_ones
from edgesaway.errors import Ended
from edgesaway.parts import check_seen_edge
from edgesaway.sights import seen_distance, seen_standing, seen_table, seen_truth
from edgesaway.steps import Steps


class Window:
    """A base seen through a sight."""

    def __init__(self, base, sight):
        self._base = base
        self._sight = sight
        self._asked = 0
        self._deals = []

    @property
    def asked(self):
        """How many steps of its deals were asked anew."""
        return self._asked

    def table(self, question):
        """The table of a question at the head, through the sight."""
        return seen_table(self._base.schema, self._sight, self._base.graph, question)

    def deal(self):
        """Begin a deal of the window."""
        check_more_deals(self._deals)
        deal = SightDeal(self, self._base, self._sight)
        self._deals = [*open_ones(self._deals), deal]
        return deal

    def count_anew(self, many):
        """Count steps that were asked anew."""
        self._asked += many


class SightEyes:
    """How questions are told to a deal that sees what a sight leaves of a graph.

    A row of None stands for the whole table.
    """

    def __init__(self, schema, sight):
        self._schema = schema
        self._sight = sight

    def told_in(self, graph, question, row):
        """The table of a question in a graph, or the truth of a row."""
        if row is None:
            return seen_table(self._schema, self._sight, graph, question)
        return seen_truth(self._schema, self._sight, graph, question, row)

    def far_in(self, graph, question, row):
        """How far the table, or the truth of a row, is from being otherwise; None if it never is."""
        if row is None:
            return seen_standing(self._schema, self._sight, graph, question)
        return seen_distance(self._schema, self._sight, graph, question, row)


class SightDeal:
    """A deal of a window; the window makes it."""

    def __init__(self, window, base, sight):
        self._window = window
        self._base = base
        self._sight = sight
        self._run = Steps(base.schema, SightEyes(base.schema, sight), base.graph, base.meters)
        self._ended = False

    @property
    def steps(self):
        """The number of its steps."""
        return len(self._run.done)

    @property
    def ended(self):
        """Whether it is ended."""
        return self._ended

    def ask(self, question):
        """The table of a question."""
        self._check_open()
        return self._run.tell(question, None)

    def look(self, question, row):
        """The truth of one row of a question."""
        self._check_open()
        return self._run.tell(question, row)

    def put(self, source, label, target):
        """What becomes of the put of an edge."""
        return self._make("put", (source, label, target))

    def take(self, source, label, target):
        """What becomes of the take of an edge."""
        return self._make("take", (source, label, target))

    def commit(self):
        """Let the deal be done at the head of the base."""
        self._check_open()
        self._ended = True
        self._base.advance(self._run.let_at(self._base, self._window))

    def drop(self):
        """End the deal; nothing is left behind."""
        self._ended = True

    def __enter__(self):
        """The deal itself is the name behind `as`."""
        return self

    def __exit__(self, kind, value, trace):
        # Behind the block the deal is dropped; as nothing is returned, an error goes on.
        self._ended = True

    def _make(self, word, edge):
        """What becomes of a change of an edge, which must be seen."""
        self._check_open()
        check_seen_edge(self._base.schema, self._sight, edge)
        return self._run.make((word, *edge))

    def _check_open(self):
        """Raise an error if the deal is ended."""
        if self._ended:
            raise Ended()
