"""Loads: texts of edges that shall be in a graph, and texts of the edges that are seen."""

from edgesaway.edgetexts import read_edges, write_graph
from edgesaway.errors import Firm, Held
from edgesaway.graphs import rival_of
from edgesaway.parts import seen_edges
from edgesaway.schemas import is_firm, label_name


def load_changes(schema, graph, text):
    """The puts of the edges of a text that are not in a graph, ascending."""
    edges = read_edges(schema, text)
    for edge in edges:
        if edge not in graph and is_firm(schema, edge[1]):
            raise Firm(label_name(schema, edge[1]))
    ahead = list(graph)
    for edge in edges:
        rival = rival_of(schema, ahead, edge)
        if rival is not None:
            raise Held(rival)
        ahead.append(edge)
    return tuple([("put", *edge) for edge in sorted(set(edges)) if edge not in graph])


def export(schema, sight, graph):
    """The text of the edges of a graph that are seen."""
    return write_graph(schema, seen_edges(sight, graph))
