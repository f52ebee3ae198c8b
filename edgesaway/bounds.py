"""Bounds of plans: how much a plan touches at most, reckoned from statistics alone."""

from edgesaway.books import book_of, labels_of
from edgesaway.schemas import nodes_of


def bound_of(schema, stats, indexes, question, plan):
    """The bound of a plan that fits."""
    return PlanBound(schema, stats, indexes).bound_behind(question[2], plan, first_bound(schema, question))[0]


class PlanBound:
    """What bounds are reckoned from; a bound on nodes is a tuple with a number for each unknown."""

    def __init__(self, schema, stats, indexes):
        self._schema = schema
        self._rows = stats[1]
        self._indexes = indexes

    def bound_behind(self, body, plan, nodes):
        """The pair of the bound of a plan for a body, and of the bound on nodes behind a body that holds."""
        if body[0] == "way":
            return self.way_bound(body, plan, nodes), self.behind_way(body, nodes)
        if body[0] == "not":
            return self.bound_behind(body[1], plan[1], nodes)[0], nodes
        return self._behind_all(body, plan, nodes) if body[0] == "and" else self._behind_some(body, plan, nodes)

    def _behind_all(self, body, plan, nodes):
        """What `bound_behind` tells of an "and": each part has the bound on nodes behind those ahead of it."""
        total = 0
        for at in plan[1]:
            bound, nodes = self.bound_behind(body[1][at], plan[2][at], nodes)
            total += bound
        return total, nodes

    def _behind_some(self, body, plan, nodes):
        """What `bound_behind` tells of an "or": all parts have the same bound on nodes."""
        told = [self.bound_behind(part, other, nodes) for part, other in zip(body[1], plan[2])]
        return sum([bound for bound, _ in told]), behind_some(nodes, [later for _, later in told])

    def way_bound(self, way, plan, nodes):
        """The bound of a plan for a way."""
        word = plan[0]
        if word == "forward":
            return node_bound(way[2], nodes) * self._edges(way[1])
        if word == "backward":
            return node_bound(way[3], nodes) * self._edges(way[1])
        _, _, _, end, pairs = self._indexes[plan[1]]
        ends = len(nodes_of(self._schema, end))
        most = min(node_bound(way[2], nodes) * ends, len(pairs))
        return most if word == "index" else most + min(most, ends) * self._edges(way[1][2])

    def _edges(self, expression):
        """The number of the edges of the labels of an expression."""
        return sum([self._rows[label][0] for label in labels_of(expression)])

    def behind_way(self, way, nodes):
        """The bound on nodes behind a way that holds."""
        _, empty, letters, firsts, _, lasts = book_of(self._schema, way[1])
        if empty == 1:
            return nodes
        backs = dict(letters)
        let_in = sum([self._rows[label][1 + backs[label]] for label in firsts])
        let_out = sum([self._rows[label][2 - backs[label]] for label in lasts])
        return lowered(lowered(nodes, way[2], let_in), way[3], let_out)


def node_bound(end, nodes):
    """The bound for an end of a way."""
    return nodes[end[1]] if end[0] == "unknown" else 1


def behind_some(nodes, behind):
    """The bound on nodes behind an "or" that holds, by the bounds behind its parts."""
    return tuple([min(most, sum([later[at] for later in behind])) for at, most in enumerate(nodes)])


def first_bound(schema, question):
    """The bound on nodes at first: for each unknown the number of the nodes of its kind."""
    return tuple([len(nodes_of(schema, kind)) for kind in question[1]])


def lowered(nodes, end, most):
    """A bound on nodes that is at most a number for an end, if this is an unknown."""
    return tuple([min(bound, most) if end == ("unknown", at) else bound for at, bound in enumerate(nodes)])
