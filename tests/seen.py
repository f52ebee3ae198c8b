"""Sights made by chance, and parts told word by word: [57], [58]."""

from tests.support import kind_at, nodes_at


def some_sight(schema, chance):
    """A sight that lets single labels be seen only with all nodes to which they can lead."""
    total = sum(many for _, many in schema[1])
    labels = [label for label in range(len(schema[2])) if chance.random() < 0.7] or [chance.randrange(len(schema[2]))]
    nodes = {node for node in range(total) if chance.random() < 0.7}
    for label in list(labels):
        if schema[2][label][4] == "single" and not set(nodes_at(schema, schema[2][label][2])) <= nodes:
            if chance.random() < 0.4 and len(labels) > 1:
                labels.remove(label)
            else:
                nodes |= set(nodes_at(schema, schema[2][label][2]))
    return "sight", tuple(labels), tuple(sorted(nodes))


def sees(sight, edge):
    return edge[1] in sight[1] and edge[0] in sight[2] and edge[2] in sight[2]


class Numbers:
    """How the whole is numbered in a part, and back."""

    def __init__(self, schema, sight):
        self.schema = schema
        self.labels = {label: at for at, label in enumerate(sight[1])}
        self.nodes = {node: at for at, node in enumerate(sight[2])}
        kinds = [kind_at(schema, node) for node in sight[2]]
        self.part = ("schema", tuple((name, kinds.count(kind)) for kind, (name, _) in enumerate(schema[1])),
                     tuple(schema[2][label] for label in sight[1]))

    def row(self, row):
        return tuple(self.nodes[node] for node in row)

    def edge(self, edge):
        return self.nodes[edge[0]], self.labels[edge[1]], self.nodes[edge[2]]

    def graph(self, graph):
        inside = [edge for edge in graph if edge[0] in self.nodes and edge[2] in self.nodes and edge[1] in self.labels]
        return tuple(self.edge(edge) for edge in inside)

    def way(self, way):
        return tuple(self.edge(edge) for edge in way)

    def states(self, states):
        return tuple((self.nodes[state[0]], self.labels[state[1]], *state[2:]) for state in states)

    def paper(self, paper):
        word = paper[0]
        if word == "sure":
            return word, self.way(paper[1])
        if word == "never":
            return word, self.states(paper[1])
        if word == "flow":
            return word, paper[1], tuple((amount, self.way(way)) for amount, way in paper[2]), self.states(paper[3])
        return word, paper[1], self.states(paper[2]), self.way(paper[3])

    def answer(self, answer):
        return *answer[:3], tuple(self.paper(paper) for paper in answer[3])

    def changes(self, changes):
        return tuple((change[0], *self.edge(change[1:])) for change in changes)

    def expression(self, expression):
        if expression[0] == "step":
            return "step", self.labels[expression[1]], expression[2]
        return expression[0], *[self.expression(part) for part in expression[1:]]

    def end(self, end):
        return ("node", self.nodes[end[1]]) if end[0] == "node" else end

    def body(self, body):
        if body[0] == "way":
            return "way", self.expression(body[1]), self.end(body[2]), self.end(body[3])
        if body[0] == "not":
            return "not", self.body(body[1])
        return body[0], tuple(self.body(part) for part in body[1])

    def question(self, question):
        return "question", question[1], self.body(question[2])


def whole_body(numbers, body):
    """A body of the part in the numbers of the whole."""
    back = Numbers.__new__(Numbers)
    back.labels = {at: label for label, at in numbers.labels.items()}
    back.nodes = {at: node for node, at in numbers.nodes.items()}
    return back.body(body)
