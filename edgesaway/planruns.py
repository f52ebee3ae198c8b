"""Runs of plans: which rows hold, and how many edges and pairs are touched to find them."""

from edgesaway.books import book_of, reversed_book
from edgesaway.questions import end_node, rows_of
from edgesaway.searches import Search


def run_plan(schema, graph, indexes, question, plan):
    """The pair of the table of a question and the touches of a plan that fits."""
    run = PlanRun(schema, graph, indexes)
    table = run.held(question[2], plan, list(rows_of(schema, question)))
    return tuple(table), run.touches


def without(rows, others):
    """Those of some rows that are not among others."""
    left_out = set(others)
    return [row for row in rows if row not in left_out]


def nodes_among(nodes):
    """The different ones of some nodes, ascending."""
    return sorted(set(nodes))


class PlanRun:
    """A run of a plan, which counts what it touches."""

    def __init__(self, schema, graph, indexes):
        self._schema = schema
        self._graph = graph
        self._indexes = indexes
        self.touches = 0

    def held(self, body, plan, rows):
        """Those of some rows for which a body holds, in their order."""
        if body[0] == "way":
            return self._held_by_way(body, plan, rows)
        if body[0] == "not":
            return without(rows, self.held(body[1], plan[1], rows))
        word, parts = body
        asked = rows
        for at in plan[1]:
            held = self.held(parts[at], plan[2][at], asked)
            asked = held if word == "and" else without(asked, held)
        return asked if word == "and" else without(rows, asked)

    def _held_by_way(self, way, plan, rows):
        """Those of some rows whose two nodes are joined by a way."""
        pairs = [(end_node(way[2], row), end_node(way[3], row)) for row in rows]
        sources = nodes_among([x for x, _ in pairs])
        targets = nodes_among([y for _, y in pairs])
        joined = set(self._joined_pairs(way[1], plan, sources, targets))
        return [row for row, pair in zip(rows, pairs) if pair in joined]

    def _joined_pairs(self, expression, plan, sources, targets):
        """Pairs of nodes that an expression joins; all those of a source and a target are among them."""
        if plan[0] == "index":
            return self._pairs_from(plan[1], sources)
        if plan[0] == "prefix":
            pairs = self._pairs_from(plan[1], sources)
            ends = self._ends_from(book_of(self._schema, expression[2]), nodes_among([middle for _, middle in pairs]))
            return [(x, y) for x, middle in pairs for y in ends[middle]]
        book = book_of(self._schema, expression)
        if plan[0] == "forward":
            ends = self._ends_from(book, sources)
            return [(x, y) for x in sources for y in ends[x]]
        ends = self._ends_from(reversed_book(self._schema, book), targets)
        return [(x, y) for y in targets for x in ends[y]]

    def _pairs_from(self, number, sources):
        """The pairs of an index that begin with a source; each of them is touched."""
        pairs = [pair for pair in self._indexes[number][4] if pair[0] in sources]
        self.touches += len(pairs)
        return pairs

    def _ends_from(self, book, starts):
        """For each of some nodes those to which a book joins it; what its search touches is touched."""
        ends = {}
        for node in starts:
            search = Search(self._schema, self._graph, book, node)
            self.touches += len(search.touched)
            ends[node] = search.ends
        return ends
