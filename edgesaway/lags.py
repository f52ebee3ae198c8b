"""Lags: what can be told of rows when the graph may have changed by up to a price."""

from edgesaway.answers import far_rows
from edgesaway.questions import rows_of


def word_within(truth, price, lag):
    """The truth if it is the same in all graphs within a lag, otherwise "open"."""
    return truth if price is None or price > lag else "open"


def told_word(schema, graph, question, row, lag):
    """How a row is told with a lag: "yes", "no" or "open"."""
    truth, price = far_rows(schema, graph, question, [row])[0]
    return word_within(truth, price, lag)


def told_words(schema, graph, question, lag):
    """The table told with a lag: a pair (row, word) for each row, in order."""
    rows = list(rows_of(schema, question))
    told = far_rows(schema, graph, question, rows)
    return tuple([(row, word_within(truth, price, lag)) for row, (truth, price) in zip(rows, told)])


def counts_between(schema, graph, question, lag):
    """The pair of the numbers between which the number of rows lies in every graph within a lag."""
    words = [word for _, word in told_words(schema, graph, question, lag)]
    return words.count("yes"), len(words) - words.count("no")
