"""Turnings: changes of the least price behind which the truth of a row is the other one."""

from edgesaway.answers import answer_of, cells_of, far_rows, turn_told
from edgesaway.graphs import outcome, with_change
from edgesaway.papers import paper_turning
from edgesaway.schemas import is_edge, is_firm, label_price
from edgesaway.truths import truth_of


def turning_of(schema, graph, question, row):
    """A right turning of a row, None if its truth is never otherwise."""
    papers = answer_of(schema, graph, question, row)[3]
    cells = cells_of(schema, question, row)
    _, price, turned = turn_told(question, papers)
    if price is None:
        return None
    changes = []
    for at in turned:
        book, x, y = cells[at]
        changes.extend(paper_turning(schema, graph, book, x, y, papers[at]))
    return tuple(changes)


def judge_turning(schema, graph, question, row, changes):
    """Whether changes are a right turning of a row."""
    truth, price = far_rows(schema, graph, question, [row])[0]
    # No change that can be done costs less than 1.
    if price is None or len(changes) > price:
        return False
    spent = 0
    for change in changes:
        if not can_be_done(schema, graph, change):
            return False
        spent += label_price(schema, change[2])
        graph = with_change(graph, change)
    return spent == price and truth_of(schema, graph, question, row) != truth


def can_be_done(schema, graph, change):
    """Whether a change is of an edge that is let and not firm, and is done in a graph."""
    edge = change[1:]
    return is_edge(schema, edge) and not is_firm(schema, edge[1]) and outcome(schema, graph, change) == "done"
