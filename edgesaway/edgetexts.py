"""The texts of nodes, edges and graphs."""

from edgesaway.errors import BadEdge, Held, There
from edgesaway.graphs import rival_of
from edgesaway.readers import Reader
from edgesaway.schemas import first_node, is_edge, kind_of, label_name


def read_edges(schema, text):
    """The edges of a text, in its order."""
    whole_edges(Reader(None, text))
    return whole_edges(Reader(schema, text))


def whole_edges(reader):
    """The edges that are all of a text."""
    edges = []
    while reader.skip("edge"):
        source = reader.take_node()
        label = reader.take_label()
        edge = (source, label, reader.take_node())
        reader.take(";")
        if reader.read_for is not None and not is_edge(reader.read_for, edge):
            raise BadEdge(edge)
        edges.append(edge)
    reader.finish()
    return tuple(edges)


def read_graph(schema, text):
    """The graph of a text."""
    graph = []
    for edge in read_edges(schema, text):
        if edge in graph:
            raise There(edge)
        rival = rival_of(schema, graph, edge)
        if rival is not None:
            raise Held(rival)
        graph = [*graph, edge]
    return tuple(sorted(graph))


def write_graph(schema, graph):
    """The text of a graph."""
    lines = []
    for source, label, target in graph:
        begin = node_text(schema, source)
        end = node_text(schema, target)
        lines.append(f"edge {begin} {label_name(schema, label)} {end} ;\n")
    return "".join(lines)


def node_text(schema, node):
    """The text of a node."""
    kind = kind_of(schema, node)
    return f"{schema[1][kind][0]}#{node - first_node(schema, kind)}"
