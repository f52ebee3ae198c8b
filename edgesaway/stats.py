"""Statistics: how many edges, sources and targets the labels have in a graph."""

from edgesaway.balls import graph_behind


def stats_of(schema, graph):
    """The statistics of a graph."""
    return ("stats", tuple([label_stats(graph, label) for label in range(len(schema[2]))]))


def label_stats(graph, label):
    """The numbers of the edges of a label in a graph, of their sources and of their targets."""
    edges = [edge for edge in graph if edge[1] == label]
    return len(edges), len(set([edge[0] for edge in edges])), len(set([edge[2] for edge in edges]))


def stats_behind(schema, stats, graph, changes):
    """The statistics behind changes that are all done in the graph with these statistics."""
    behind = graph_behind(graph, changes)
    touched = [change[2] for change in changes]
    rows = [label_stats(behind, label) if label in touched else row for label, row in enumerate(stats[1])]
    return ("stats", tuple(rows))
