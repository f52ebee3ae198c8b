"""Deals: several steps at a graph that are let at the head if all of them would be told the same there."""

from edgesaway.errors import Ended
from edgesaway.steps import Steps, WholeEyes


class Deal:
    """A deal of a base; the base makes it."""

    def __init__(self, base):
        self._base = base
        self._run = Steps(base.schema, WholeEyes(base.schema), base.graph, base.meters)
        self._ended = False

    @property
    def graph(self):
        """The graph that the deal sees."""
        return self._run.seen

    @property
    def steps(self):
        """The number of its steps."""
        return len(self._run.done)

    @property
    def ended(self):
        """Whether it is ended."""
        return self._ended

    def ask(self, question):
        """The table of a question."""
        self._check_open()
        return self._run.tell(question, None)

    def look(self, question, row):
        """The truth of one row of a question."""
        self._check_open()
        return self._run.tell(question, row)

    def put(self, source, label, target):
        """What becomes of the put of an edge."""
        self._check_open()
        return self._run.make(("put", source, label, target))

    def take(self, source, label, target):
        """What becomes of the take of an edge."""
        self._check_open()
        return self._run.make(("take", source, label, target))

    def commit(self):
        """Let the deal be done at the head, and tell the position of the base."""
        self._base.advance(self.gone_through())
        return self._base.position

    def gone_through(self):
        """End the deal, and tell the graph behind all of its steps at the head, if they are let there."""
        self._check_open()
        self._ended = True
        return self._run.let_at(self._base, self._base)

    def drop(self):
        """End the deal; nothing is left behind."""
        self._ended = True

    def __enter__(self):
        """The deal itself is the name behind `as`."""
        return self

    def __exit__(self, kind, value, trace):
        # Behind the block the deal is dropped; as nothing is returned, an error goes on.
        self._ended = True

    def _check_open(self):
        """Raise an error if the deal is ended."""
        if self._ended:
            raise Ended()
