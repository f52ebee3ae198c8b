"""Papers of a yes: the greatest flow of ways, and the side that shows that there is no greater one."""

from edgesaway.books import followers
from edgesaway.leastways import LeastWays
from edgesaway.meaning import is_last, leads_of, walk_ends
from edgesaway.schemas import is_firm, label_price

START = ("start",)
END = ("end",)
GATE = "gate"
STATE = "state"


def yes_paper(schema, graph, book, x, y):
    """A right paper for two nodes that a book joins in a graph."""
    firm = tuple([edge for edge in graph if is_firm(schema, edge[1])])
    sure = LeastWays(schema, firm, book, x, y)
    if sure.many > 0:
        return ("sure", sure.way_at(0))
    room = room_of(schema, graph, book, x, y)
    left = filled(room)
    used = {point: {later: room[point][later] - left[point][later] for later in room[point]} for point in room}
    flow = tuple([(amount, way_along(book, route)) for amount, route in routes_of(used)])
    side = tuple(sorted([point[1:] for point in points_ahead(left) if point[0] == STATE]))
    return ("flow", sum([amount for amount, _ in flow]), flow, side)


def room_of(schema, graph, book, x, y):
    """A net of points: the start, gates, states and the end, each with the next points and how much goes to them."""
    leads = leads_of(graph, book)
    onward = followers(book)
    # More than all edges let through together: so what is not an edge that can change is never full.
    most = sum([label_price(schema, edge[1]) for edge in graph]) + 1
    room = {START: {(GATE, x, label): most for label in book[3]}, END: {}}
    for (node, label), walks in leads.items():
        price = most if is_firm(schema, label) else label_price(schema, label)
        room[(GATE, node, label)] = {(STATE, *state): price for _, state in walks}
        for _, state in walks:
            later = {(GATE, state[0], other): most for other in onward[label]}
            if is_last(book, y, state):
                later[END] = most
            point = (STATE, *state)
            room[point] = later
    return room


def copied(room):
    """A net like another one, that can be changed without it."""
    return {point: {later: room[point][later] for later in room[point]} for point in room}


def filled(room):
    """The room that is left, forth and back, when as much as can goes from the start to the end."""
    left = copied(room)
    for point, row in room.items():
        for later in row:
            left.setdefault(later, {}).setdefault(point, 0)
    ahead = points_ahead(left)
    while END in ahead:
        route = route_back(ahead)
        amount = room_along(left, route)
        for point, later in zip(route, route[1:]):
            left[point][later] -= amount
            left[later][point] += amount
        ahead = points_ahead(left)
    return left


def routes_of(used):
    """Routes from the start to the end with their amounts, which make up what is used of a net."""
    used = copied(used)
    routes = []
    ahead = points_ahead(used)
    while END in ahead:
        route = route_back(ahead)
        amount = room_along(used, route)
        for point, later in zip(route, route[1:]):
            used[point][later] -= amount
        routes.append((amount, route))
        ahead = points_ahead(used)
    return routes


def points_ahead(room):
    """For each point to which there is room from the start: the point ahead of it; none beyond the end's distance."""
    ahead = {START: None}
    row = [START]
    while row and END not in ahead:
        longer = []
        for point in row:
            for later, amount in room[point].items():
                if amount > 0 and later not in ahead:
                    ahead[later] = point
                    longer.append(later)
        row = longer
    return ahead


def route_back(ahead):
    """The points from the start to the end."""
    route = [END]
    while route[-1] != START:
        route.append(ahead[route[-1]])
    route.reverse()
    return route


def room_along(room, route):
    """How much there is room for along a route."""
    return min([room[point][later] for point, later in zip(route, route[1:])])


def way_along(book, route):
    """The way whose edges lead from the gates to the states of a route."""
    backs = dict(book[2])
    way = []
    for point, later in zip(route, route[1:]):
        if point[0] == GATE:
            _, node, label = point
            source, target = walk_ends((label, backs[label]), (node, label, later[1]))
            way.append((source, label, target))
    return tuple(way)
