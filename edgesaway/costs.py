"""What it costs to walk edges, those among them that have to be put in first."""

from heapq import heappop, heappush

from edgesaway.books import followers
from edgesaway.graphs import rival_of
from edgesaway.meaning import leads_of, stays
from edgesaway.schemas import edges_let, is_firm, label_price


def cost_of(schema, graph, edge):
    """What it costs to walk an edge that is let, None if it cannot be walked."""
    if edge in graph:
        return 0
    if is_firm(schema, edge[1]):
        return None
    price = label_price(schema, edge[1])
    return price if rival_of(schema, graph, edge) is None else price + price


def walk_costs(schema, graph, book):
    """For each edge that can be walked by a letter of a book: what it costs."""
    costs = {}
    for label, _ in book[2]:
        here = tuple([edge for edge in graph if edge[1] == label])
        for edge in edges_let(schema, label):
            cost = cost_of(schema, here, edge)
            if cost is not None:
                costs[edge] = cost
    return costs


def least_walks(schema, graph, book, x):
    """For each state that can be come to from a node: the least cost, the edge that comes last, the state ahead."""
    costs = walk_costs(schema, graph, book)
    leads = leads_of(list(costs), book)
    onward = followers(book)
    found = {}
    gates = set()
    # None stands for the start, at which nothing has been walked yet.
    queue = [(0, (), None, None)]
    while queue:
        height, edge, state, ahead = heappop(queue)
        if state in found:
            continue
        found[state] = (height, edge, ahead)
        node, labels = (x, book[3]) if state is None else (state[0], onward[state[1]])
        for gate in [(node, label) for label in labels]:
            # The first state at a gate is the cheapest one; so no way goes through a gate, or a state, twice.
            if gate not in gates:
                gates.add(gate)
                for other, later in leads.get(gate, []):
                    heappush(queue, (height + costs[other], other, later, state))
    del found[None]
    return found


def heights_of(schema, graph, book, x):
    """The ascending tuple of (node, label, height) of all states that can be come to, by the least cost."""
    walks = least_walks(schema, graph, book, x)
    return tuple(sorted([(*state, walk[0]) for state, walk in walks.items()]))


def end_costs(schema, graph, book, x):
    """For each node to which some way from a node can be walked: the least cost of such a way."""
    costs = {}
    for node, label, height in heights_of(schema, graph, book, x):
        if label in book[5]:
            costs[node] = min(height, costs.get(node, height))
    if book[1] == 1:
        costs[x] = 0
    return costs


def cheapest_way(schema, graph, book, x, y):
    """A way of the least cost between two nodes that can be walked, None if there is none."""
    if stays(book, x, y):
        return ()
    walks = least_walks(schema, graph, book, x)
    ends = [(walks[(y, label)][0], (y, label)) for label in book[5] if (y, label) in walks]
    if not ends:
        return None
    state = min(ends)[1]
    way = []
    while state is not None:
        _, edge, state = walks[state]
        way.append(edge)
    return tuple(way[::-1])
