"""Parts: what a sight leaves of schemas, graphs, questions and rows, in numbers of its own."""

from edgesaway.books import inner_first, labels_of, parts_of
from edgesaway.edgetexts import node_text
from edgesaway.errors import BadSight, Unseen
from edgesaway.questions import folded, ways_of
from edgesaway.schemas import is_single, label_kinds, label_name, node_count, nodes_of


def check_sight(schema, sight):
    """Raise an error for the first single label that is seen without all nodes to which it can lead."""
    _, labels, nodes = sight
    for label in labels:
        targets = nodes_of(schema, label_kinds(schema, label)[1])
        if is_single(schema, label) and not all([node in nodes for node in targets]):
            raise BadSight(label_name(schema, label))


def check_seen_label(schema, sight, label):
    """Raise an error for a label that is there and is not seen."""
    if 0 <= label < len(schema[2]) and label not in sight[1]:
        raise Unseen(label_name(schema, label))


def check_seen_node(schema, sight, node):
    """Raise an error for a node that is there and is not seen."""
    if 0 <= node < node_count(schema) and node not in sight[2]:
        raise Unseen(node_text(schema, node))


def check_seen_edge(schema, sight, edge):
    """Raise an error for the first of source, label and target that is there and is not seen."""
    source, label, target = edge
    check_seen_node(schema, sight, source)
    check_seen_label(schema, sight, label)
    check_seen_node(schema, sight, target)


def part_schema(schema, sight):
    """The part of a schema: all kinds with the nodes that are seen, and the labels that are seen."""
    _, labels, nodes = sight
    kinds = []
    for kind, (name, _) in enumerate(schema[1]):
        kinds.append((name, len([node for node in nodes_of(schema, kind) if node in nodes])))
    return ("schema", tuple(kinds), tuple([schema[2][label] for label in labels]))


def seen_edges(sight, graph):
    """The edges of a graph that are seen, in the numbers of the whole."""
    _, labels, nodes = sight
    return tuple([edge for edge in graph if edge[0] in nodes and edge[1] in labels and edge[2] in nodes])


def part_graph(schema, sight, graph):
    """The part of a graph."""
    return tuple([part_edge(sight, edge) for edge in seen_edges(sight, graph)])


def part_edge(sight, edge):
    """An edge that is seen, in the numbers of the part."""
    source, label, target = edge
    return (sight[2].index(source), sight[1].index(label), sight[2].index(target))


def part_question(schema, sight, question):
    """The part of a question."""
    ways = [part_way(schema, sight, way) for way in ways_of(question)]
    return ("question", question[1], folded(question, ways, body_of))


def body_of(word, parts):
    """The body of a told kind with some parts."""
    return (word, parts[0]) if word == "not" else (word, tuple(parts))


def part_way(schema, sight, way):
    """The part of a way."""
    word, expression, begin, end = way
    for label in labels_of(expression):
        check_seen_label(schema, sight, label)
    for place, number in (begin, end):
        if place == "node":
            check_seen_node(schema, sight, number)
    return (word, part_expression(sight, expression), part_end(sight, begin), part_end(sight, end))


def part_expression(sight, expression):
    """An expression whose labels are seen, in the numbers of the part."""
    built = []
    for part in inner_first(expression, parts_of):
        if part[0] == "step":
            built.append(("step", sight[1].index(part[1]), part[2]))
        else:
            at = len(built) - len(parts_of(part))
            built[at:] = [(part[0], *built[at:])]
    return built[0]


def part_end(sight, end):
    """An end of a way, in the numbers of the part."""
    word, number = end
    return end if word == "unknown" else (word, sight[2].index(number))


def part_row(sight, row):
    """A row of nodes that are seen, in the numbers of the part."""
    return tuple([sight[2].index(node) for node in row])


def whole_row(sight, row):
    """A row of the part, in the numbers of the whole."""
    return tuple([sight[2][node] for node in row])


def whole_edge(sight, edge):
    """An edge of the part, in the numbers of the whole."""
    source, label, target = edge
    return (sight[2][source], sight[1][label], sight[2][target])
