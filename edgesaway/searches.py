"""Searches: what a book comes to from one node of a graph."""

from edgesaway.meaning import ends_behind, leads_of, letter_ends, states_reached
from edgesaway.schemas import kind_of
from edgesaway.sides import opened


class Search:
    """A search of a book from a node in a graph, gone on with as far as it can."""

    def __init__(self, schema, graph, book, x):
        kinds = {letter[0]: letter_ends(schema, letter)[0] for letter in book[2]}
        leads = leads_of(graph, book)
        self._states = states_reached(graph, book, x)
        gates = opened(book, x, self._states)
        self._gates = tuple([(node, label) for node, label in gates if kind_of(schema, node) == kinds[label]])
        self._touched = tuple(sorted([edge for gate in self._gates for edge, _ in leads.get(gate, [])]))
        self._ends = ends_behind(book, x, self._states)

    @property
    def states(self):
        """The ascending tuple of the states reached."""
        return self._states

    @property
    def gates(self):
        """The ascending tuple of the open gates at which an edge can lead on by its kind."""
        return self._gates

    @property
    def touched(self):
        """The ascending tuple of the edges touched."""
        return self._touched

    @property
    def ends(self):
        """The ascending tuple of the nodes to which x is joined."""
        return self._ends
