"""Cold readers: answers from the pages of a disk alone, its log unread."""

from edgesaway.lags import told_word, told_words
from edgesaway.pages import pages_for
from edgesaway.questions import labels_asked
from edgesaway.roots import newest_root, page_place


class Cold:
    """A reader of a disk, as long as nothing is written to it."""

    def __init__(self, disk):
        _, number, schema, pages, _, lead, _, firsts = newest_root(disk)
        self._disk = disk
        self._number = number
        self._schema = schema
        self._pages = pages
        self._lead = lead
        self._firsts = firsts
        # The edges of each page that was read, by its number.
        self._page_edges = {}

    @property
    def schema(self):
        """The schema of the root."""
        return self._schema

    @property
    def looked(self):
        """The ascending tuple of the numbers of the pages that were read."""
        return tuple(sorted(self._page_edges))

    def told(self, question, row):
        """How a row is told: "yes" and "no" are sure, whatever the log holds."""
        return told_word(self._schema, self._graph_for(question), question, row, self._lead)

    def told_rows(self, question):
        """The told table: a pair (row, word) for each row, in order."""
        return told_words(self._schema, self._graph_for(question), question, self._lead)

    def _graph_for(self, question):
        """The graph of the edges that were read, with all edges of the labels of a question among them."""
        for label in labels_asked(question):
            for at in pages_for(self._schema, self._firsts, label):
                if at not in self._page_edges:
                    self._page_edges[at] = self._disk.read(page_place(self._number, self._pages, at))[2]
        return tuple([edge for at in sorted(self._page_edges) for edge in self._page_edges[at]])
