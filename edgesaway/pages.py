"""Pages: the edges of a graph, cut into blocks, and which of them can have an edge of a label."""

from edgesaway.schemas import label_kinds, nodes_of

MOST_PAGE_EDGES = 8


def cut_up(things, most):
    """The tuple of the parts of a tuple, each of so many things but the last one."""
    return tuple([things[at:at + most] for at in range(0, len(things), most)])


def pages_of(number, graph):
    """The tuple of the pages of a root with this number."""
    return tuple([("page", number, edges) for edges in cut_up(graph, MOST_PAGE_EDGES)])


def firsts_of(pages):
    """The tuple of the first edges of pages."""
    return tuple([page[2][0] for page in pages])


def pages_for(schema, firsts, label):
    """The ascending tuple of the numbers of the pages that can have an edge of a label."""
    sources = nodes_of(schema, label_kinds(schema, label)[0])
    found = []
    for at, first in enumerate(firsts):
        # A source can have edges on both sides of the border to the next page.
        if any([node >= first[0] and (at + 1 == len(firsts) or node <= firsts[at + 1][0]) for node in sources]):
            found.append(at)
    return tuple(found)
