"""What a book means in a graph: how its letters lead, its ways, and the nodes that it joins."""

from edgesaway.books import followers, has_word
from edgesaway.schemas import is_edge, label_kinds


def letter_ends(schema, letter):
    """The pair of kinds at which a letter begins and ends."""
    label, back = letter
    source, target = label_kinds(schema, label)
    return (target, source) if back == 1 else (source, target)


def walk_ends(letter, edge):
    """The pair of nodes from which and to which a letter leads along an edge of its label."""
    source, _, target = edge
    return (target, source) if letter[1] == 1 else (source, target)


def is_way(schema, book, x, y, way):
    """Whether a tuple of triples of integers is a way of a book from x to y."""
    if not all([is_edge(schema, edge) for edge in way]):
        return False
    if not has_word(book, tuple([edge[1] for edge in way])):
        return False
    backs = dict(book[2])
    node = x
    for edge in way:
        start, end = walk_ends((edge[1], backs[edge[1]]), edge)
        if start != node:
            return False
        node = end
    return node == y


def leads_of(graph, book):
    """For each gate from which edges of a graph lead: the pairs of such an edge and the state it leads to."""
    backs = dict(book[2])
    leads = {}
    for edge in graph:
        label = edge[1]
        if label in backs:
            start, end = walk_ends((label, backs[label]), edge)
            leads.setdefault((start, label), []).append((edge, (end, label)))
    return leads


def states_reached(graph, book, x):
    """The ascending tuple of the states that a search of a book from x reaches in a graph."""
    leads = leads_of(graph, book)
    onward = followers(book)
    gates = [(x, label) for label in book[3]]
    reached = set()
    while gates:
        gate = gates.pop()
        for _, state in leads.get(gate, []):
            if state not in reached:
                reached.add(state)
                node, label = state
                gates.extend([(node, later) for later in onward[label]])
    return tuple(sorted(reached))


def stays(book, x, y):
    """Whether the empty word joins two nodes."""
    return book[1] == 1 and x == y


def is_last(book, y, state):
    """Whether a search that has reached a state has come to y by a whole word."""
    node, label = state
    return node == y and label in book[5]


def joined(schema, graph, book, x, y):
    """Whether a book joins two nodes in a graph."""
    if stays(book, x, y):
        return True
    return any([is_last(book, y, state) for state in states_reached(graph, book, x)])


def ends_behind(book, x, states):
    """The ascending tuple of the nodes to which a book joins x, by the states that its search from x reaches."""
    ends = [node for node, label in states if label in book[5]]
    return tuple(sorted(set([*ends, x] if book[1] == 1 else ends)))
