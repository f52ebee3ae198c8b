"""Graphs, and the changes that lead from one graph to another one."""

from edgesaway.errors import BadEdge, Firm, Gone, Held, There, TooLarge
from edgesaway.schemas import is_edge, is_firm, is_single, label_name, label_price

MOST_EDGES = 100


def is_graph(schema, graph):
    """Whether a tuple of triples of integers is a graph of the schema."""
    held = set()
    for at, edge in enumerate(graph):
        if not is_edge(schema, edge):
            return False
        if at > 0 and graph[at - 1] >= edge:
            return False
        place = edge[:2]
        if place in held and is_single(schema, edge[1]):
            return False
        held.add(place)
    return True


def rival_of(schema, graph, edge):
    """The other edge that holds the place of an edge with a single label, None if there is none."""
    if is_single(schema, edge[1]):
        for other in graph:
            if other[:2] == edge[:2] and other != edge:
                return other
    return None


def check_change(schema, change):
    """Raise an error if the edge of a change is not let or never changes."""
    edge = change[1:]
    if not is_edge(schema, edge):
        raise BadEdge(edge)
    if is_firm(schema, edge[1]):
        raise Firm(label_name(schema, edge[1]))


def outcome(schema, graph, change):
    """The word for what becomes of a change in a graph."""
    check_change(schema, change)
    edge = change[1:]
    if change[0] == "take":
        return "done" if edge in graph else "gone"
    if edge in graph:
        return "there"
    return "done" if rival_of(schema, graph, edge) is None else "held"


def check_done(schema, graph, change):
    """Raise the error that tells why a change is not done in a graph."""
    word = outcome(schema, graph, change)
    edge = change[1:]
    if word == "there":
        raise There(edge)
    if word == "held":
        raise Held(rival_of(schema, graph, edge))
    if word == "gone":
        raise Gone(edge)


def with_change(graph, change):
    """The graph behind a change that is done in it."""
    edge = change[1:]
    if change[0] == "take":
        return tuple([other for other in graph if other != edge])
    return tuple(sorted([*graph, edge]))


def changed(schema, graph, changes):
    """The graph behind changes; raises the error of the first one that is not done."""
    for change in changes:
        check_done(schema, graph, change)
        graph = with_change(graph, change)
    return graph


def check_many(graph):
    """Raise an error if a graph has more edges than a base can keep."""
    if len(graph) > MOST_EDGES:
        raise TooLarge("graph")


def price_of(schema, changes):
    """The sum of the prices of changes."""
    return sum([label_price(schema, change[2]) for change in changes])


def difference(graph, other):
    """The changes from one graph to another one: the takes ahead of the puts, so that no put is held."""
    takes = [("take", *edge) for edge in graph if edge not in other]
    puts = [("put", *edge) for edge in other if edge not in graph]
    return (*takes, *puts)


def apart(schema, graph, other):
    """How far two graphs are apart, None if their firm edges differ."""
    changes = difference(graph, other)
    if any([is_firm(schema, change[2]) for change in changes]):
        return None
    return price_of(schema, changes)
