"""Papers of a no: layers that each way has to climb, sides that no way can leave, and their judges."""

from edgesaway.books import followers
from edgesaway.costs import cheapest_way, cost_of, heights_of, walk_costs
from edgesaway.meaning import is_last, is_way, leads_of, stays, walk_ends
from edgesaway.sides import bars, is_side


def no_paper(schema, graph, book, x, y):
    """A right paper for two nodes that a book does not join in a graph."""
    heights = heights_of(schema, graph, book, x)
    way = cheapest_way(schema, graph, book, x, y)
    if way is None:
        return ("never", tuple([layer[:2] for layer in heights]))
    price = sum([cost_of(schema, graph, edge) for edge in way])
    return ("gap", price, tuple([layer for layer in heights if layer[2] < price]), way)


def judge_never(schema, graph, book, x, y, paper):
    """Whether a paper is a side that stays closed whatever edges are put in."""
    word, side = paper
    return word == "never" and bars(schema, tuple(walk_costs(schema, graph, book)), book, x, y, side)


def judge_gap(schema, graph, book, x, y, paper):
    """Whether a paper is a way with layers that show that no way costs less."""
    word, price, layers, way = paper
    if word != "gap" or price < 1 or stays(book, x, y):
        return False
    if not is_side(schema, book, tuple([layer[:2] for layer in layers])):
        return False
    if not all([0 <= layer[2] < price for layer in layers]):
        return False
    if any([is_last(book, y, layer[:2]) for layer in layers]):
        return False
    return lifts_no_more(schema, graph, book, x, price, layers) and way_cost(schema, graph, book, x, y, way) == price


def lifts_no_more(schema, graph, book, x, price, layers):
    """Whether no edge that can be walked leads higher than by what it costs."""
    heights = {layer[:2]: layer[2] for layer in layers}
    onward = followers(book)
    lows = {}
    for node, label, height in layers:
        for later in onward[label]:
            lows[(node, later)] = min(height, lows.get((node, later), price))
    for label in book[3]:
        lows[(x, label)] = 0
    costs = walk_costs(schema, graph, book)
    for gate, walks in leads_of(list(costs), book).items():
        low = lows.get(gate, price)
        if any([heights.get(state, price) > low + costs[edge] for edge, state in walks]):
            return False
    return True


def way_cost(schema, graph, book, x, y, way):
    """What a way costs; None if it is none, cannot be walked, or goes through a gate or a state twice."""
    if not is_way(schema, book, x, y, way):
        return None
    costs = [cost_of(schema, graph, edge) for edge in way]
    if any([cost is None for cost in costs]):
        return None
    backs = dict(book[2])
    ends = [(edge[1], walk_ends((edge[1], backs[edge[1]]), edge)) for edge in way]
    gates = set([(label, start) for label, (start, _) in ends])
    states = set([(label, end) for label, (_, end) in ends])
    return sum(costs) if len(gates) == len(way) and len(states) == len(way) else None
