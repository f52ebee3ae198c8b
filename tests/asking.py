"""Questions made by chance, and plain reckonings of what they tell: body by body, and graph by graph of a ball."""

import itertools

from edgesaway.balls import ball
from tests.support import kind_at, nodes_at, pairs_of, some_expression, words_told

# Two kinds of few nodes and cheap labels, so that balls are small. One of the labels is firm, two are single.
SMALL = ("schema", (("n", 2), ("m", 1)), (
    ("p", 0, 0, 1, "many"), ("q", 0, 0, 2, "single"), ("u", 0, 1, 1, "single"), ("f", 0, 0, 0, "many"),
    ("k", 0, 0, 2, "mark"), ("l", 1, 0, 3, "many"),
))


def way(expression, begin, end):
    return ("way", expression, begin, end)


def node(number):
    return ("node", number)


def unknown(number):
    return ("unknown", number)


def asked(body, *kinds):
    return ("question", kinds, body)


def some_end(schema, chance, unknowns):
    if unknowns and chance.random() < 0.7:
        return unknown(chance.randrange(len(unknowns)))
    return node(chance.randrange(sum(many for _, many in schema[1])))


def backs_of(expression):
    if expression[0] == "step":
        return {expression[1]: expression[2]}
    return {label: back for part in expression[1:] for label, back in backs_of(part).items()}


def kinds_behind(schema, expression, start):
    """The kinds to which words of an expression lead from a kind, all words up to 6 labels tried."""
    backs = backs_of(expression)
    found = set()
    for word in words_told(expression, 6):
        kind = start
        for label in word:
            ends = schema[2][label][1:3]
            begin, end = ends[::-1] if backs[label] else ends
            kind = end if kind == begin else None
        found.add(kind)
    return found - {None}


def kind_of_end(schema, unknowns, end):
    return unknowns[end[1]] if end[0] == "unknown" else kind_at(schema, end[1])


def some_way(schema, chance, labels, unknowns):
    """A way with some of the labels; mostly one that some word can join."""
    for _ in range(8):
        few = chance.sample(labels, min(len(labels), chance.randrange(1, 4)))
        left = list(few)
        begin, end = some_end(schema, chance, unknowns), some_end(schema, chance, unknowns)
        expression = some_expression(schema, chance, left, 3)
        kinds = kinds_behind(schema, expression, kind_of_end(schema, unknowns, begin))
        if kind_of_end(schema, unknowns, end) in kinds and expression != ("stay",):
            break
    for label in few:
        labels.remove(label)
    return way(expression, begin, end)


def some_body(schema, chance, labels, unknowns, depth):
    """A body with some of the labels, each once at most; labels is a list that is used up."""
    word = chance.choice(("way", "way", "not", "and", "or", "and", "or")) if depth else "way"
    if word == "way" or not labels:
        return some_way(schema, chance, labels, unknowns)
    if word == "not":
        return word, some_body(schema, chance, labels, unknowns, depth - 1)
    many = chance.randrange(1, 4)
    return word, tuple(some_body(schema, chance, labels, unknowns, depth - 1) for _ in range(many))


def some_question(schema, chance, many=None, depth=3):
    """A question with none, one or two unknowns; labels may stay unused."""
    many = chance.randrange(3) if many is None else many
    unknowns = tuple(chance.randrange(len(schema[1])) for _ in range(many))
    labels = list(range(len(schema[2])))
    return ("question", unknowns, some_body(schema, chance, labels, unknowns, depth))


def ways_told(body):
    if body[0] == "way":
        return [body]
    parts = body[1:] if body[0] == "not" else body[1]
    return [found for part in parts for found in ways_told(part)]


def rows_told(schema, question):
    return list(itertools.product(*[nodes_at(schema, kind) for kind in question[1]]))


def node_at(end, row):
    return row[end[1]] if end[0] == "unknown" else end[1]


def holds(schema, graph, body, row):
    """Whether a body holds for a row [26]."""
    if body[0] == "way":
        nodes = [n for n in range(100) if kind_at(schema, n) is not None]
        return (node_at(body[2], row), node_at(body[3], row)) in pairs_of(body[1], graph, nodes)
    if body[0] == "not":
        return not holds(schema, graph, body[1], row)
    told = [holds(schema, graph, part, row) for part in body[1]]
    return all(told) if body[0] == "and" else any(told)


def truth_told(schema, graph, question, row):
    return "yes" if holds(schema, graph, question[2], row) else "no"


def table_told(schema, graph, question):
    return tuple(row for row in rows_told(schema, question) if holds(schema, graph, question[2], row))


def distances_within(schema, graph, question, most):
    """For each row its distance if it is at most a number, otherwise None, from all graphs of the ball."""
    graphs = ball(schema, graph, most)
    table = table_told(schema, graph, question)
    found = dict.fromkeys(rows_told(schema, question))
    for price, other in graphs:
        for row in set(table) ^ set(table_told(schema, other, question)):
            if found[row] is None:
                found[row] = price
    return found
