"""Kept views: tables that stay right while a graph changes, renewed cell by cell."""

from edgesaway.answers import combined_price, far_pairs
from edgesaway.books import labels_of
from edgesaway.errors import TooMany, Twice, Unknown
from edgesaway.graphs import changed, price_of
from edgesaway.questions import row_ends, rows_of, ways_of
from edgesaway.truths import combined, way_pairs

MOST_VIEWS = 12


class Views:
    """Views of a graph, by their names."""

    def __init__(self, schema, graph):
        self._schema = schema
        self._graph = graph
        self._views = {}
        self._renewed = 0

    @property
    def graph(self):
        """The graph."""
        return self._graph

    @property
    def names(self):
        """The ascending tuple of the names of the views."""
        return tuple(sorted(self._views))

    @property
    def renewed(self):
        """How many cells were renewed so far."""
        return self._renewed

    def keep(self, name, question):
        """Keep a view of a question."""
        if name in self._views:
            raise Twice(name)
        if len(self._views) >= MOST_VIEWS:
            raise TooMany("views")
        self._views[name] = View(self._schema, self._graph, question)

    def forget(self, name):
        """Keep a view no longer."""
        self._check_name(name)
        del self._views[name]

    def question_of(self, name):
        """The question of a view."""
        self._check_name(name)
        return self._views[name].question

    def table(self, name):
        """The table of a view."""
        self._check_name(name)
        truths = self._views[name].truths
        return tuple([row for row, truth in truths.items() if truth == "yes"])

    def truth(self, name, row):
        """The truth of a row of a view."""
        self._check_name(name)
        return self._views[name].truths[row]

    def left(self, name, row):
        """What is left of a row of a view, None if its truth is never otherwise."""
        self._check_name(name)
        return self._views[name].left_of(row)

    def commit(self, changes):
        """Do changes, and tell the rows that turned: triples (name, row, new truth), ascending."""
        graph = changed(self._schema, self._graph, changes)
        turned = []
        for name in sorted(self._views):
            view = self._views[name]
            ahead = view.truths
            self._renewed += view.spend(graph, changes)
            turned.extend([(name, row, truth) for row, truth in view.truths.items() if ahead[row] != truth])
        self._graph = graph
        return tuple(turned)

    def _check_name(self, name):
        """Raise an error if no view has a name."""
        if name not in self._views:
            raise Unknown(name)


class View:
    """A question with its cells.

    A cell is a pair of its truth and of what is left of it; the cells of each way stand by their pairs of nodes.
    """

    def __init__(self, schema, graph, question):
        self._schema = schema
        self.question = question
        self._rows = list(rows_of(schema, question))
        self._books = []
        self._cells = []
        for book, pairs in way_pairs(schema, question, self._rows):
            told = far_pairs(schema, graph, book, pairs)
            self._books.append(book)
            self._cells.append({pair: cell for pair, cell in zip(pairs, told)})
        self.truths = self._truths_now()

    def left_of(self, row):
        """What is left of a row by what is left of its cells."""
        cells = self._cells_of(row)
        return combined_price(self.question, [cell[0] for cell in cells], [cell[1] for cell in cells])

    def spend(self, graph, changes):
        """Spend the prices of changes that lead to a graph, and tell how many cells were renewed."""
        renewed = 0
        for at, way in enumerate(ways_of(self.question)):
            labels = labels_of(way[1])
            spent = price_of(self._schema, [change for change in changes if change[2] in labels])
            renewed += self._renew(at, graph, spent)
        if renewed > 0:
            self.truths = self._truths_now()
        return renewed

    def _renew(self, at, graph, spent):
        """Spend a price on the cells of a way, and ask those anew of which nothing is left; tell how many."""
        cells = self._cells[at]
        due = []
        for pair, (truth, left) in list(cells.items()):
            if left is not None:
                cells[pair] = (truth, left - spent)
                if left <= spent:
                    due.append(pair)
        for pair, cell in zip(due, far_pairs(self._schema, graph, self._books[at], due)):
            cells[pair] = cell
        return len(due)

    def _cells_of(self, row):
        """The list of the cells of a row, way by way."""
        return [self._cells[at][pair] for at, pair in enumerate(row_ends(self.question, row))]

    def _truths_now(self):
        """For each row, in order, the truth that follows from its cells."""
        return {row: combined(self.question, [cell[0] for cell in self._cells_of(row)]) for row in self._rows}
