"""Standings: how far a whole table is from being otherwise, and the rows that are the first to turn."""

from edgesaway.answers import far_rows
from edgesaway.questions import rows_of


def standing_of(schema, graph, question):
    """The least of the distances of all rows, None if there is none."""
    told = far_rows(schema, graph, question, list(rows_of(schema, question)))
    return min([price for _, price in told if price is not None], default=None)


def weakest(schema, graph, question, many):
    """The first pairs (row, price) of the rows of the table, by price, then by row."""
    return first_to_turn(schema, graph, question, "yes", many)


def nearest(schema, graph, question, many):
    """The first pairs (row, price) of the rows that are not in the table, by price, then by row."""
    return first_to_turn(schema, graph, question, "no", many)


def first_to_turn(schema, graph, question, truth, many):
    """The first pairs (row, price) of the rows with a truth, by price, those with None last, then by row."""
    rows = list(rows_of(schema, question))
    told = far_rows(schema, graph, question, rows)
    pairs = [(row, price) for row, (word, price) in zip(rows, told) if word == truth]
    numbered = sorted([(price, row) for row, price in pairs if price is not None])
    never = [(row, price) for row, price in pairs if price is None]
    return tuple([*[(row, price) for price, row in numbered], *never][:many])
