"""Plans made by chance, and plain reckonings of which fit, what they touch and their bounds."""

from edgesaway.books import book_of, reversed_book
from edgesaway.indexes import index_of
from edgesaway.searches import Search
from tests.asking import holds, kind_of_end, kinds_behind, node_at, ways_told
from tests.support import nodes_at

FORWARD = ("forward",)
BACKWARD = ("backward",)


def fits_told(schema, indexes, question, body, plan):
    """Whether a plan of a right shape fits a body [34]."""
    if body[0] == "not":
        return plan[0] == "not" and fits_told(schema, indexes, question, body[1], plan[1])
    if body[0] != "way":
        if plan[0] != "parts" or sorted(plan[1]) != list(range(len(body[1]))) or len(plan[2]) != len(body[1]):
            return False
        return all(fits_told(schema, indexes, question, part, other) for part, other in zip(body[1], plan[2]))
    if plan in (FORWARD, BACKWARD):
        return True
    if plan[0] not in ("index", "prefix") or not 0 <= plan[1] < len(indexes):
        return False
    _, expression, start, end, _ = indexes[plan[1]]
    ends = kind_of_end(schema, question[1], body[2]), kind_of_end(schema, question[1], body[3])
    if plan[0] == "index":
        return expression == body[1] and (start, end) == ends
    if body[1][0] != "then" or expression != body[1][1] or start != ends[0]:
        return False
    return not kinds_behind(schema, expression, start) - {end}


def some_indexes(schema, graph, question):
    """The indexes of all ways, and of the left parts of all that begin with one, between all kinds."""
    ways = [way[1] for way in ways_told(question[2])]
    expressions = ways + [expression[1] for expression in ways if expression[0] == "then"]
    kinds = range(len(schema[1]))
    return tuple(index_of(schema, graph, part, start, end) for part in expressions for start in kinds for end in kinds)


def plans_of_way(schema, indexes, question, way):
    plans = [FORWARD, BACKWARD]
    plans += [(word, number) for word in ("index", "prefix") for number in range(len(indexes))]
    return [plan for plan in plans if fits_told(schema, indexes, question, way, plan)]


def some_plan(schema, indexes, question, body, chance):
    """A plan that fits a body."""
    if body[0] == "way":
        plans = plans_of_way(schema, indexes, question, body)
        return chance.choice(plans[2:] if len(plans) > 2 and chance.random() < 0.6 else plans)
    if body[0] == "not":
        return "not", some_plan(schema, indexes, question, body[1], chance)
    order = list(range(len(body[1])))
    chance.shuffle(order)
    return "parts", tuple(order), tuple(some_plan(schema, indexes, question, part, chance) for part in body[1])


def touches_told(schema, graph, indexes, body, plan, rows):
    """The touches of a plan that is asked for rows [35]."""
    if body[0] == "not":
        return touches_told(schema, graph, indexes, body[1], plan[1], rows)
    if body[0] != "way":
        total = 0
        for at in plan[1]:
            part = body[1][at]
            total += touches_told(schema, graph, indexes, part, plan[2][at], rows)
            rows = [row for row in rows if holds(schema, graph, part, row) == (body[0] == "and")]
        return total
    sources = {node_at(body[2], row) for row in rows}
    targets = {node_at(body[3], row) for row in rows}
    if plan[0] == "forward":
        return sum(len(Search(schema, graph, book_of(schema, body[1]), x).touched) for x in sources)
    if plan[0] == "backward":
        book = reversed_book(schema, book_of(schema, body[1]))
        return sum(len(Search(schema, graph, book, y).touched) for y in targets)
    pairs = [(x, y) for x, y in indexes[plan[1]][4] if x in sources]
    if plan[0] == "index":
        return len(pairs)
    book = book_of(schema, body[1][2])
    return len(pairs) + sum(len(Search(schema, graph, book, m).touched) for m in {y for _, y in pairs})


def bound_told(schema, stats, indexes, body, plan, nodes):
    """The pair of the bound of a plan and of the bounds on nodes behind its body [36]; nodes is a list."""
    rows = stats[1]
    nodes = list(nodes)
    if body[0] == "not":
        return bound_told(schema, stats, indexes, body[1], plan[1], nodes)[0], nodes
    if body[0] == "and":
        total = 0
        for at in plan[1]:
            more, nodes = bound_told(schema, stats, indexes, body[1][at], plan[2][at], nodes)
            total += more
        return total, nodes
    if body[0] == "or":
        told = [bound_told(schema, stats, indexes, part, other, nodes) for part, other in zip(body[1], plan[2])]
        behind = [min(bound, sum(later[at] for _, later in told)) for at, bound in enumerate(nodes)]
        return sum(bound for bound, _ in told), behind
    s, t = [nodes[end[1]] if end[0] == "unknown" else 1 for end in body[2:4]]
    _, empty, letters, firsts, _, lasts = book_of(schema, body[1])
    edges = sum(rows[label][0] for label, _ in letters)
    if plan[0] in ("index", "prefix"):
        index = indexes[plan[1]]
        most = len(nodes_at(schema, index[3]))
        bound = min(s * most, len(index[4]))
        if plan[0] == "prefix":
            bound += min(bound, most) * sum(rows[label][0] for label, _ in book_of(schema, body[1][2])[2])
    else:
        bound = (s if plan == FORWARD else t) * edges
    if not empty:
        let_in = sum(rows[label][2 if dict(letters)[label] else 1] for label in firsts)
        let_out = sum(rows[label][1 if dict(letters)[label] else 2] for label in lasts)
        for end, most in ((body[2], let_in), (body[3], let_out)):
            if end[0] == "unknown":
                nodes[end[1]] = min(nodes[end[1]], most)
    return bound, nodes


def first_nodes(schema, question):
    return [len(nodes_at(schema, kind)) for kind in question[1]]
