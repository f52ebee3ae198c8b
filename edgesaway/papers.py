"""Papers: what shows how far the answer for two nodes is from being otherwise."""

from edgesaway.balls import ball
from edgesaway.flowing import yes_paper
from edgesaway.flows import cut_of, judge_flow, judge_sure
from edgesaway.gaps import judge_gap, judge_never, no_paper
from edgesaway.graphs import rival_of
from edgesaway.meaning import joined


def paper_of(schema, graph, book, x, y):
    """A right paper for two nodes."""
    if joined(schema, graph, book, x, y):
        return yes_paper(schema, graph, book, x, y)
    return no_paper(schema, graph, book, x, y)


def judge_paper(schema, graph, book, x, y, paper):
    """Whether a paper of any form is a right one for two nodes."""
    word = paper[0]
    if word == "sure":
        return judge_sure(schema, graph, book, x, y, paper)
    if word == "flow":
        return judge_flow(schema, graph, book, x, y, paper)
    if word == "never":
        return judge_never(schema, graph, book, x, y, paper)
    return word == "gap" and judge_gap(schema, graph, book, x, y, paper)


def paper_truth(paper):
    """The answer that a paper is for."""
    return "yes" if paper[0] in ("sure", "flow") else "no"


def paper_price(paper):
    """The distance that a paper tells, None if the answer is never otherwise."""
    return paper[1] if paper[0] in ("flow", "gap") else None


def paper_turning(schema, graph, book, x, y, paper):
    """The changes behind which the answer is the other one, None if there are none."""
    if paper[0] == "flow":
        return tuple([("take", *edge) for edge in cut_of(schema, graph, book, x, paper[3])])
    if paper[0] == "gap":
        return puts_along(schema, graph, paper[3])
    return None


def puts_along(schema, graph, way):
    """The puts of the missing edges of a way, and ahead of them the takes of the edges that hold their places."""
    missing = sorted([edge for edge in way if edge not in graph])
    rivals = [rival_of(schema, graph, edge) for edge in missing]
    # A rival has the source and the label of its edge, so the rivals ascend as the missing edges do.
    takes = [("take", *rival) for rival in rivals if rival is not None]
    return (*takes, *[("put", *edge) for edge in missing])


def plain_distance(schema, graph, book, x, y, most):
    """The distance up to a number, found by asking all graphs within this number; None if it is greater."""
    truth = joined(schema, graph, book, x, y)
    for price, other in ball(schema, graph, most):
        if joined(schema, other, book, x, y) != truth:
            return price
    return None
