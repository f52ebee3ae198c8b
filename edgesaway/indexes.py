"""Indexes: all pairs of nodes of two kinds that an expression joins in a graph."""

from edgesaway.books import book_of
from edgesaway.schemas import nodes_of
from edgesaway.searches import Search


def index_of(schema, graph, expression, start, end):
    """The index of an expression between two kinds."""
    book = book_of(schema, expression)
    targets = nodes_of(schema, end)
    pairs = []
    for x in nodes_of(schema, start):
        pairs.extend([(x, y) for y in Search(schema, graph, book, x).ends if y in targets])
    return ("index", expression, start, end, tuple(pairs))
