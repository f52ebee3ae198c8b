"""Papers judged word by word as the document tells it, and papers that are made a little wrong by chance."""

import itertools

from tests.support import all_edges, kind_at


def step(label, back=0):
    return ("step", label, back)


def price_at(schema, label):
    return schema[2][label][3]


def walk(book, edge):
    """The nodes from which and to which a letter of a book leads along an edge."""
    source, label, target = edge
    return (target, source) if dict(book[2])[label] else (source, target)


def end_kind(schema, book, label):
    return schema[2][label][1 if dict(book[2])[label] else 2]


def way_told(schema, book, x, y, way):
    """Whether a tuple of triples is a way [10]."""
    if not way:
        return book[1] == 1 and x == y
    if any(edge not in all_edges(schema) for edge in way):
        return False
    labels = [edge[1] for edge in way]
    if any(label not in dict(book[2]) for label in labels):
        return False
    if labels[0] not in book[3] or labels[-1] not in book[5]:
        return False
    if any((p, a) not in book[4] for p, a in zip(labels, labels[1:])):
        return False
    places = [walk(book, edge) for edge in way]
    if places[0][0] != x or places[-1][1] != y:
        return False
    return all(ahead[1] == behind[0] for ahead, behind in zip(places, places[1:]))


def ways_by_length(schema, graph, book, x, most):
    """For each number of edges up to one the pairs of an end and a way [10] from x in a graph, by going on and on."""
    row = [(x, ())]
    yield [(x, ())] if book[1] else []
    for _ in range(most):
        longer = []
        for node, way in row:
            for edge in graph:
                if edge[1] in dict(book[2]) and walk(book, edge)[0] == node:
                    if (way and (way[-1][1], edge[1]) in book[4]) or (not way and edge[1] in book[3]):
                        longer.append((walk(book, edge)[1], (*way, edge)))
        row = longer
        yield [(node, way) for node, way in row if way[-1][1] in book[5]]


def all_states(schema, book):
    total = sum(many for _, many in schema[1])
    pairs = itertools.product(range(total), dict(book[2]))
    return sorted((node, label) for node, label in pairs if kind_at(schema, node) == end_kind(schema, book, label))


def gates_told(book, x, states):
    """The gates that states open [14], [16]."""
    gates = {(x, a) for a in book[3]}
    return gates | {(u, a) for u, p in states for q, a in book[4] if q == p}


def leads_told(graph, book):
    """The triples of an edge, its gate and its state."""
    found = []
    for edge in graph:
        if edge[1] in dict(book[2]):
            u, v = walk(book, edge)
            found.append((edge, (u, edge[1]), (v, edge[1])))
    return found


def side_told(schema, book, side):
    return list(side) == sorted(set(side)) and set(side) <= set(all_states(schema, book))


def cut_told(graph, book, x, side):
    """The cut of a side [18], as an ascending tuple."""
    gates = gates_told(book, x, side)
    return tuple(sorted(edge for edge, gate, state in leads_told(graph, book) if gate in gates and state not in side))


def sure_right(schema, graph, book, x, y, paper):
    word, way = paper
    lies = all(edge in graph for edge in way)
    return word == "sure" and lies and way_told(schema, book, x, y, way) and not any(
        price_at(schema, edge[1]) for edge in way
    )


def flow_right(schema, graph, book, x, y, paper):
    word, price, flow, side = paper
    if word != "flow" or price < 1 or (book[1] and x == y):
        return False
    for amount, way in flow:
        if amount < 1 or not way or any(edge not in graph for edge in way) or not way_told(schema, book, x, y, way):
            return False
    for edge in graph:
        load = sum(amount * way.count(edge) for amount, way in flow)
        if price_at(schema, edge[1]) and load > price_at(schema, edge[1]):
            return False
    if sum(amount for amount, _ in flow) != price or not side_told(schema, book, side):
        return False
    if any((y, b) in side for b in book[5]):
        return False
    prices = [price_at(schema, edge[1]) for edge in cut_told(graph, book, x, side)]
    return 0 not in prices and sum(prices) == price


def cost_told(schema, graph, edge):
    """What it costs to walk an edge that is let [20], None if it cannot be walked."""
    source, label, target = edge
    if edge in graph:
        return 0
    if price_at(schema, label) == 0:
        return None
    held = schema[2][label][4] == "single" and any(other[:2] == (source, label) for other in graph)
    return price_at(schema, label) * (2 if held else 1)


def walkable(schema, graph):
    return [edge for edge in all_edges(schema) if cost_told(schema, graph, edge) is not None]


def never_right(schema, graph, book, x, y, paper):
    word, side = paper
    if word != "never" or (book[1] and x == y) or not side_told(schema, book, side):
        return False
    return not any((y, b) in side for b in book[5]) and not cut_told(walkable(schema, graph), book, x, side)


def way_walked(schema, graph, book, x, y, way):
    """What a way costs that can be walked as a gap paper wants it, None for any other one."""
    if not way_told(schema, book, x, y, way):
        return None
    costs = [cost_told(schema, graph, edge) for edge in way]
    gates = [(walk(book, edge)[0], edge[1]) for edge in way]
    states = [(walk(book, edge)[1], edge[1]) for edge in way]
    if None in costs or len(set(gates)) < len(way) or len(set(states)) < len(way):
        return None
    return sum(costs)


def gap_right(schema, graph, book, x, y, paper):
    word, price, layers, way = paper
    if word != "gap" or price < 1 or (book[1] and x == y):
        return False
    if list(layers) != sorted(layers) or not side_told(schema, book, sorted(layer[:2] for layer in layers)):
        return False
    if any(not 0 <= height <= price - 1 for _, _, height in layers):
        return False
    heights = {state: price for state in all_states(schema, book)}
    heights.update({(node, label): height for node, label, height in layers})
    for edge, (u, a), state in leads_told(walkable(schema, graph), book):
        cost = cost_told(schema, graph, edge)
        if u == x and a in book[3] and heights[state] > cost:
            return False
        for p, b in book[4]:
            if b == a and (u, p) in heights and heights[state] > heights[(u, p)] + cost:
                return False
    if any(heights.get((y, b), price) != price for b in book[5]):
        return False
    return way_walked(schema, graph, book, x, y, way) == price


JUDGES = {"sure": sure_right, "flow": flow_right, "never": never_right, "gap": gap_right}


def paper_right(schema, graph, book, x, y, paper):
    return paper[0] in JUDGES and JUDGES[paper[0]](schema, graph, book, x, y, paper)


def other_number(chance, number):
    near = (number + 1, number - 1, 0, 1, 2, 3, 4, 5, -number, -1, 1000000, -1000000)
    return chance.choice(near)


def other_numbers(chance, numbers):
    at = chance.randrange(len(numbers))
    return (*numbers[:at], other_number(chance, numbers[at]), *numbers[at + 1:])


def other_row(chance, row, other, extra):
    """A tuple of any number of parts with one part made otherwise, left out, doubled, moved or put in."""
    row = list(row)
    deed = chance.randrange(5)
    at = chance.randrange(len(row) + 1)
    if deed == 0 or not row:
        row.insert(at, extra())
    elif deed == 1:
        del row[at % len(row)]
    elif deed == 2:
        row.insert(at, chance.choice(row))
    elif deed == 3:
        row.insert(at % len(row), row.pop())
    else:
        row[at % len(row)] = other(chance, row[at % len(row)])
    return tuple(row)


def other_way(chance, schema, way):
    return other_row(chance, way, other_numbers, lambda: chance.choice(all_edges(schema)))


def other_side(chance, schema, book, side, sort):
    states = [*all_states(schema, book), (0, 0), (-1, 1)]
    changed = other_row(chance, side, other_numbers, lambda: chance.choice(states))
    return tuple(sorted(changed)) if sort else changed


def other_pair(chance, schema, pair):
    amount, way = pair
    if chance.random() < 0.5:
        return other_number(chance, amount), way
    return amount, other_way(chance, schema, way)


def other_paper(chance, schema, book, paper):
    """A paper of the same shape that is a little otherwise."""
    word = paper[0] if chance.random() < 0.95 else chance.choice(("", "other"))
    sort = chance.random() < 0.7
    if paper[0] == "sure":
        return word, other_way(chance, schema, paper[1])
    if paper[0] == "never":
        return word, other_side(chance, schema, book, paper[1], sort)
    _, price, rows, last = paper
    deed = chance.randrange(3)
    if deed == 0:
        price = other_number(chance, price)
    elif paper[0] == "gap" and deed == 1:
        last = other_way(chance, schema, last)
    elif paper[0] == "gap":
        states = [*all_states(schema, book), (0, 0)]
        rows = other_row(chance, rows, other_numbers, lambda: (*chance.choice(states), chance.randrange(-1, 4)))
        rows = tuple(sorted(rows)) if sort else rows
    elif deed == 1:
        last = other_side(chance, schema, book, last, sort)
    else:
        rows = other_row(chance, rows, lambda _, pair: other_pair(chance, schema, pair), lambda: (1, last and ()))
    return word, price, rows, last


def any_numbers(chance, many):
    return tuple(chance.choice((-1000000, -1, 0, 0, 1, 1, 2, 3, 4, 9, 1000000)) for _ in range(many))


def any_row(chance, part):
    return tuple(part() for _ in range(chance.randrange(4)))


def any_paper(chance, word):
    """A paper of the told shape with any numbers in it."""
    def way():
        return any_row(chance, lambda: any_numbers(chance, 3))
    if word == "sure":
        return word, way()
    if word == "never":
        return word, any_row(chance, lambda: any_numbers(chance, 2))
    price = any_numbers(chance, 1)[0]
    if word == "gap":
        return word, price, any_row(chance, lambda: any_numbers(chance, 3)), way()
    flow = any_row(chance, lambda: (any_numbers(chance, 1)[0], way()))
    return word, price, flow, any_row(chance, lambda: any_numbers(chance, 2))
