"""The least ways of a book between two nodes of a graph, counted and numbered without going through all of them."""

from edgesaway.books import followers
from edgesaway.meaning import is_last, leads_of, stays

START = "start"


class LeastWays:
    """The ways from one node to another one that lie in a graph and have the fewest edges."""

    def __init__(self, schema, graph, book, x, y):
        onward = walks_onward(graph, book, x)
        layers = layers_to(book, onward, x, y)
        self._length = len(layers) - 1 if layers else None
        self._many, self._steps = counted_steps(layers, onward)

    @property
    def length(self):
        """The number of edges of each least way, None if there is none."""
        return self._length

    @property
    def many(self):
        """How many least ways there are."""
        return self._many

    def ways(self):
        """All least ways, in order, each when it is asked for."""
        for number in range(self._many):
            yield self.way_at(number)

    def way_at(self, number):
        """The least way with a number, from 0 on."""
        way = []
        place = START
        while len(way) < self._length:
            steps = self._steps[place]
            at = 0
            while number >= steps[at][2]:
                number -= steps[at][2]
                at += 1
            edge, place, _ = steps[at]
            way.append(edge)
        return tuple(way)

    def number_of(self, way):
        """The number of a least way."""
        number = 0
        place = START
        for edge in way:
            steps = self._steps[place]
            number += sum([many for other, _, many in steps if other < edge])
            place = [state for other, state, _ in steps if other == edge][0]
        return number


def walks_onward(graph, book, x):
    """For the start and each state: the pairs of an edge that leads on from there and its state, ascending."""
    leads = leads_of(graph, book)
    onward = followers(book)
    found = {START: walks_at(leads, x, book[3])}
    for walks in leads.values():
        for _, (node, label) in walks:
            found[(node, label)] = walks_at(leads, node, onward[label])
    return found


def walks_at(leads, node, labels):
    """The pairs of an edge with one of some labels that leads away from a node and its state, ascending."""
    return sorted([walk for label in labels for walk in leads.get((node, label), [])])


def layers_to(book, onward, x, y):
    """The start, then the states that are first come to by 1, 2 and more edges; the last layer ends the least ways.

    There are no layers at all if there is no way.
    """
    if stays(book, x, y):
        return [[START]]
    layers = [[START]]
    seen = set()
    while layers[-1]:
        layer = []
        for place in layers[-1]:
            for _, state in onward[place]:
                if state not in seen:
                    seen.add(state)
                    layer.append(state)
        ends = [state for state in layer if is_last(book, y, state)]
        if ends:
            return [*layers, ends]
        layers.append(layer)
    return []


def counted_steps(layers, onward):
    """How many ways there are, and for each place the steps of these ways from there.

    A step is the triple of an edge, the state that it leads to, and the number of ways on from that state.
    """
    steps = {}
    counts = {place: 1 for place in layers[-1]} if layers else {}
    for layer in layers[-2::-1]:
        # Only what lies one layer further counts: a step to a state of its own layer or an earlier one is a detour.
        here = {}
        for place in layer:
            steps[place] = [(edge, state, counts[state]) for edge, state in onward[place] if state in counts]
            here[place] = sum([many for _, _, many in steps[place]])
        counts = here
    return counts.get(START, 0), steps
