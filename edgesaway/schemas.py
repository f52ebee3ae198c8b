"""Schemas: names, kinds and labels, and the nodes and edges that they make."""

from edgesaway.errors import BadName, BadNumber, BadRule, TooLarge, Twice

MOST_KINDS = 6
MOST_LABELS = 12
MOST_NODES = 24
MOST_PRICE = 9
LONGEST_NAME = 8
LETTERS = "abcdefghijklmnopqrstuvwxyz"
DIGITS = "0123456789"
RULES = ("many", "single", "mark")
RESERVED = (
    "kind", "label", "many", "single", "mark", "firm", "edge", "find", "way", "and", "or", "not", "stay", "at",
)


def is_name(text):
    """Whether a text can be the name of a kind or a label."""
    if not 1 <= len(text) <= LONGEST_NAME or text[0] not in LETTERS:
        return False
    for sign in text:
        if sign not in LETTERS and sign not in DIGITS:
            return False
    return text not in RESERVED


def check_schema(schema):
    """Raise the first error of a schema that is due."""
    kinds = schema[1]
    labels = schema[2]
    if len(kinds) > MOST_KINDS:
        raise TooLarge("kinds")
    if len(labels) > MOST_LABELS:
        raise TooLarge("labels")
    names = []
    for name, many in kinds:
        check_new_name(names, name)
        if not 0 <= many <= MOST_NODES:
            raise BadNumber(many)
        names.append(name)
    for label in labels:
        check_new_name(names, label[0])
        check_label(label, len(kinds))
        names.append(label[0])
    if node_count(schema) > MOST_NODES:
        raise TooLarge("nodes")


def check_new_name(names, name):
    """Raise an error if a name is none, or is one of the names ahead of it."""
    if not is_name(name):
        raise BadName(name)
    if name in names:
        raise Twice(name)


def check_label(label, kind_count):
    """Raise the first error of a label behind its name."""
    name, source, target, price, rule = label
    for kind in (source, target):
        if not 0 <= kind < kind_count:
            raise BadNumber(kind)
    if not 0 <= price <= MOST_PRICE:
        raise BadNumber(price)
    if rule not in RULES or (rule == "mark" and source != target):
        raise BadRule(name)


def node_count(schema):
    """The number of all nodes."""
    return sum([many for _, many in schema[1]])


def first_node(schema, kind):
    """The number that the first node of a kind has, if there is one."""
    return sum([many for _, many in schema[1][:kind]])


def nodes_of(schema, kind):
    """The ascending tuple of the nodes of a kind."""
    first = first_node(schema, kind)
    return tuple(range(first, first + schema[1][kind][1]))


def kind_of(schema, node):
    """The number of the kind of a node; None for a number that no node has."""
    if node < 0:
        return None
    behind = 0
    for kind, (_, many) in enumerate(schema[1]):
        behind += many
        if node < behind:
            return kind
    return None


def label_name(schema, label):
    """The name of a label."""
    return schema[2][label][0]


def label_kinds(schema, label):
    """The pair of the source kind and the target kind of a label."""
    return schema[2][label][1:3]


def label_price(schema, label):
    """The price of one change of an edge with a label."""
    return schema[2][label][3]


def is_firm(schema, label):
    """Whether the edges of a label never change."""
    return label_price(schema, label) == 0


def is_single(schema, label):
    """Whether a label is let once at each source."""
    return schema[2][label][4] == "single"


def is_mark(schema, label):
    """Whether the edges of a label lead from a node to the same node only."""
    return schema[2][label][4] == "mark"


def is_edge(schema, edge):
    """Whether a triple of integers is an edge that is let."""
    source, label, target = edge
    if not 0 <= label < len(schema[2]):
        return False
    if (kind_of(schema, source), kind_of(schema, target)) != label_kinds(schema, label):
        return False
    return source == target or not is_mark(schema, label)


def edges_let(schema, label):
    """The ascending tuple of all edges with a label that are let."""
    begin, end = label_kinds(schema, label)
    if is_mark(schema, label):
        return tuple([(node, label, node) for node in nodes_of(schema, begin)])
    targets = nodes_of(schema, end)
    return tuple([(source, label, target) for source in nodes_of(schema, begin) for target in targets])
