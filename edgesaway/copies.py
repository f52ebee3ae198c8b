"""Copies: they hear of the changes of a head late, and tell what is sure nevertheless."""

from edgesaway.balls import graph_behind
from edgesaway.errors import Blank
from edgesaway.lags import told_word, told_words


class Copy:
    """A copy of the graph of a head."""

    def __init__(self, schema, number, lead):
        self._schema = schema
        self._number = number
        self._lead = lead
        self._life = 0
        # Both are None as long as the copy is blank.
        self._position = None
        self._graph = None

    @property
    def life(self):
        """How often the copy was started."""
        return self._life

    @property
    def blank(self):
        """Whether the copy has no graph."""
        return self._graph is None

    @property
    def position(self):
        """The position up to which the copy knows the changes of the head, None if it is blank."""
        return self._position

    @property
    def graph(self):
        """The graph of the copy, None if it is blank."""
        return self._graph

    def begin(self):
        """Start the copy, and tell the wish that it writes."""
        self._life += 1
        self._position = None
        self._graph = None
        return ("wish", self._number, self._life)

    def hear(self, letter):
        """Hear a letter, and tell the ack that answers it, None if there is none."""
        word, number, life = letter[:3]
        if number != self._number or life != self._life:
            return None
        if word == "whole":
            return self._hear_whole(letter[3], letter[4])
        if word == "entry" and self._graph is not None:
            return self._hear_entry(letter[3], letter[4])
        return None

    def told(self, question, row):
        """How a row is told: "yes" and "no" are sure, whatever the head has done meanwhile."""
        self._check_graph()
        return told_word(self._schema, self._graph, question, row, self._lead)

    def told_rows(self, question):
        """The told table: a pair (row, word) for each row, in order."""
        self._check_graph()
        return told_words(self._schema, self._graph, question, self._lead)

    def _hear_whole(self, position, graph):
        """Take a graph over, unless what the copy has is as new."""
        if self._graph is not None and position <= self._position:
            return None
        self._position = position
        self._graph = graph
        return self._ack()

    def _hear_entry(self, position, changes):
        """Do the changes of the next position; those of an earlier one were done already."""
        if position > self._position + 1:
            return None
        if position == self._position + 1:
            self._graph = graph_behind(self._graph, changes)
            self._position = position
        return self._ack()

    def _ack(self):
        """The letter that tells the head how far the copy is."""
        return ("ack", self._number, self._life, self._position)

    def _check_graph(self):
        """Raise an error if the copy is blank."""
        if self._graph is None:
            raise Blank()
