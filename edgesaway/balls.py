"""Balls: all graphs within a price of a graph."""

from edgesaway.errors import TooMany
from edgesaway.graphs import difference, with_change
from edgesaway.schemas import edges_let, is_firm, is_single, label_price

MOST_GRAPHS = 2000


def ball(schema, graph, most):
    """The ascending tuple of the pairs (how far it is apart, graph) of all graphs within a price."""
    found = [(0, ())]
    for turns in turns_within(schema, graph, most):
        # A list of its own: what is found here already has a turn of this place, and gets no second one.
        for spent, changes in list(found):
            for price, more in turns:
                if spent + price <= most:
                    found.append((spent + price, changes + more))
        if len(found) > MOST_GRAPHS:
            raise TooMany("ball")
    return tuple(sorted([(price, graph_behind(graph, changes)) for price, changes in found]))


def graph_behind(graph, changes):
    """The graph behind changes that are all done."""
    for change in changes:
        graph = with_change(graph, change)
    return graph


def turns_within(schema, graph, most):
    """For each place of a graph that can be otherwise within a price: its turns, pairs (price, changes)."""
    turns = []
    for label in range(len(schema[2])):
        if is_firm(schema, label):
            continue
        price = label_price(schema, label)
        for edges in places_of(schema, label):
            here = tuple([edge for edge in edges if edge in graph])
            within = [
                (price * len(changes), changes)
                for changes in [difference(here, there) for there in fillings_of(edges)]
                if changes and price * len(changes) <= most
            ]
            if within:
                turns.append(within)
    return turns


def places_of(schema, label):
    """The edges of a label that are let, put together where only one of them can be there."""
    edges = edges_let(schema, label)
    if not is_single(schema, label):
        return [(edge,) for edge in edges]
    places = {}
    for edge in edges:
        places.setdefault(edge[0], []).append(edge)
    return [tuple(row) for row in places.values()]


def fillings_of(edges):
    """What can be there of the edges of one place: none, or any one."""
    return [(), *[(edge,) for edge in edges]]
