"""What the tests share: schemas, things made by chance from a told seed, and plain reckonings to compare with."""

import itertools
import random

# Kinds: a with nodes 0 1 2, b with nodes 3 4, c without nodes.
# Labels: 0 free (a to a), 1 way over (a to b), 2 single (a to b), 3 firm (a to a), 4 mark at a, 5 mark at b,
# 6 single (a to a), 7 to the kind without nodes.
TOWN = (
    "schema",
    (("a", 3), ("b", 2), ("c", 0)),
    (
        ("road", 0, 0, 2, "many"),
        ("over", 0, 1, 3, "many"),
        ("owner", 0, 1, 1, "single"),
        ("wall", 0, 0, 0, "many"),
        ("red", 0, 0, 1, "mark"),
        ("blue", 1, 1, 4, "mark"),
        ("boss", 0, 0, 5, "single"),
        ("lost", 0, 2, 1, "many"),
    ),
)

# One kind of three nodes; labels 0, 1, 2 are walked, 3, 4, 5 are marks.
FLAT = (
    "schema",
    (("n", 3),),
    (
        ("p", 0, 0, 1, "many"),
        ("q", 0, 0, 2, "single"),
        ("r", 0, 0, 0, "many"),
        ("k", 0, 0, 1, "mark"),
        ("l", 0, 0, 3, "mark"),
        ("m", 0, 0, 0, "mark"),
    ),
)

# Two kinds; 0 and 1 stay in the first one, 2 and 3 lead over, 4 is a mark at the first, 5 one at the second kind.
PAIR = (
    "schema",
    (("s", 3), ("t", 2)),
    (
        ("p", 0, 0, 1, "many"),
        ("q", 0, 0, 2, "single"),
        ("u", 0, 1, 1, "many"),
        ("v", 1, 0, 2, "single"),
        ("k", 0, 0, 1, "mark"),
        ("l", 1, 1, 3, "mark"),
    ),
)


def by_chance(seed):
    return random.Random(seed)


def kind_at(schema, node):
    kinds = [kind for kind, (_, many) in enumerate(schema[1]) for _ in range(many)]
    return kinds[node] if 0 <= node < len(kinds) else None


def nodes_at(schema, kind):
    total = sum(many for _, many in schema[1])
    return [node for node in range(total) if kind_at(schema, node) == kind]


def all_edges(schema):
    edges = []
    total = sum(many for _, many in schema[1])
    for x, label, y in itertools.product(range(total), range(len(schema[2])), range(total)):
        _, source, target, _, rule = schema[2][label]
        if kind_at(schema, x) == source and kind_at(schema, y) == target and (rule != "mark" or x == y):
            edges.append((x, label, y))
    return edges


def fits_rules(schema, edges):
    places = [(x, label) for x, label, _ in edges if schema[2][label][4] == "single"]
    return len(places) == len(set(places))


def some_graph(schema, chance, many):
    edges = all_edges(schema)
    chance.shuffle(edges)
    graph = []
    for edge in edges:
        if len(graph) < many and fits_rules(schema, [*graph, edge]):
            graph.append(edge)
    return tuple(sorted(graph))


def some_expression(schema, chance, labels, depth=4):
    """An expression of some of the labels, each once at most; labels is a list that is used up."""
    if depth == 0 or not labels or chance.random() < 0.15:
        if not labels or chance.random() < 0.15:
            return ("stay",)
        label = labels.pop(chance.randrange(len(labels)))
        back = 0 if schema[2][label][4] == "mark" else chance.randrange(2)
        return ("step", label, back)
    word = chance.choice(("then", "then", "then", "either", "either", "star", "plus", "maybe"))
    if word in ("then", "either"):
        left = some_expression(schema, chance, labels, depth - 1)
        return (word, left, some_expression(schema, chance, labels, depth - 1))
    return (word, some_expression(schema, chance, labels, depth - 1))


def some_book(schema, chance, labels):
    """A book that need not be that of an expression."""
    letters = []
    for label in sorted(labels):
        if chance.random() < 0.75:
            letters.append((label, 0 if schema[2][label][4] == "mark" else chance.randrange(2)))
    names = [label for label, _ in letters]
    pairs = [(p, a) for p in names for a in names]
    return (
        "book",
        chance.randrange(2),
        tuple(letters),
        tuple(a for a in names if chance.random() < 0.5),
        tuple(pair for pair in pairs if chance.random() < 0.4),
        tuple(a for a in names if chance.random() < 0.5),
    )


def words_told(expression, most):
    """The set of all words of an expression with at most so many labels, straight from their definition."""
    word = expression[0]
    if word == "stay":
        return {()}
    if word == "step":
        return {(expression[1],)} if most > 0 else set()
    if word == "then":
        left, right = (words_told(part, most) for part in expression[1:])
        return {a + b for a in left for b in right if len(a) + len(b) <= most}
    if word == "either":
        return words_told(expression[1], most) | words_told(expression[2], most)
    part = words_told(expression[1], most)
    if word == "maybe":
        return part | {()}
    found = set(part)
    while True:
        more = {a + b for a in found for b in part if len(a) + len(b) <= most} | found
        if more == found:
            return found | {()} if word == "star" else found
        found = more


def book_words(book, most):
    """The set of all words of a book with at most so many labels, straight from their definition."""
    _, empty, letters, firsts, follows, lasts = book
    found = {()} if empty else set()
    row = [(a,) for a in firsts]
    for _ in range(most):
        found |= {word for word in row if word[-1] in lasts}
        row = [(*word, a) for word in row for p, a in follows if p == word[-1]]
    return found


def leads(graph, letter):
    label, back = letter
    return {(y, x) if back else (x, y) for x, a, y in graph if a == label}


def pairs_of(expression, graph, nodes):
    """All pairs of nodes that an expression joins, put together from its parts."""
    word = expression[0]
    same = {(v, v) for v in nodes}
    if word == "stay":
        return same
    if word == "step":
        return leads(graph, expression[1:])
    if word == "either":
        return pairs_of(expression[1], graph, nodes) | pairs_of(expression[2], graph, nodes)
    if word == "then":
        left, right = (pairs_of(part, graph, nodes) for part in expression[1:])
        return {(x, z) for x, y in left for w, z in right if y == w}
    part = pairs_of(expression[1], graph, nodes)
    if word == "maybe":
        return part | same
    found = set(part)
    while True:
        more = found | {(x, z) for x, y in found for w, z in part if y == w}
        if more == found:
            return found | same if word == "star" else found
        found = more


def book_pairs(book, graph, nodes):
    """All pairs of nodes that a book joins, by going on letter by letter from all nodes at once."""
    _, empty, letters, firsts, follows, lasts = book
    backs = dict(letters)
    found = {(x, a, y) for a in firsts for x, y in leads(graph, (a, backs[a]))}
    while True:
        more = found | {
            (x, a, z)
            for x, p, y in found
            for q, a in follows
            if q == p
            for w, z in leads(graph, (a, backs[a]))
            if w == y
        }
        if more == found:
            break
        found = more
    pairs = {(x, y) for x, b, y in found if b in lasts}
    return pairs | {(v, v) for v in nodes} if empty else pairs


def raised(kind, call, *things):
    """The error of a class that a call raises."""
    try:
        call(*things)
    except kind as error:
        assert error.__class__ is kind, error.__class__
        return error
    raise AssertionError(f"{kind.__name__} was not raised")


def price_of_changes(schema, changes):
    """The sum of the prices of changes [6]."""
    return sum(schema[2][label][3] for _, _, label, _ in changes)
