"""Truths: which rows of a question hold in a graph."""

from edgesaway.books import book_of
from edgesaway.meaning import ends_behind, states_reached
from edgesaway.questions import folded, row_ends, rows_of, ways_of

OPPOSITES = {"yes": "no", "no": "yes", "open": "open"}


def combined(question, truths):
    """The truth that follows from those of the ways; "open" where ways that are "open" leave it so."""
    return folded(question, truths, combined_parts)


def combined_parts(word, truths):
    """The truth of a body of a told kind that follows from those of its parts."""
    if word == "not":
        return OPPOSITES[truths[0]]
    decisive, other = ("no", "yes") if word == "and" else ("yes", "no")
    if decisive in truths:
        return decisive
    return "open" if "open" in truths else other


def way_pairs(schema, question, rows):
    """For each way of a question its book, and the list of the pairs of nodes that some rows make of its ends."""
    ends = [row_ends(question, row) for row in rows]
    books = [book_of(schema, way[1]) for way in ways_of(question)]
    return [(book, [pairs[at] for pairs in ends]) for at, book in enumerate(books)]


def pair_truths(graph, book, pairs):
    """For each of some pairs of nodes whether a book joins them, "yes" or "no"."""
    ends = {}
    for x, _ in pairs:
        if x not in ends:
            ends[x] = ends_behind(book, x, states_reached(graph, book, x))
    return ["yes" if y in ends[x] else "no" for x, y in pairs]


def truths_of(schema, graph, question, rows):
    """The list of the truths of some rows."""
    columns = [pair_truths(graph, book, pairs) for book, pairs in way_pairs(schema, question, rows)]
    return [combined(question, [column[at] for column in columns]) for at in range(len(rows))]


def truth_of(schema, graph, question, row):
    """Whether a row holds, "yes" or "no"."""
    return truths_of(schema, graph, question, [row])[0]


def table_of(schema, graph, question):
    """The ascending tuple of the rows that hold."""
    rows = list(rows_of(schema, question))
    truths = truths_of(schema, graph, question, rows)
    return tuple([row for row, truth in zip(rows, truths) if truth == "yes"])
