"""Heads: a graph whose changes are told to copies that lag behind."""

from edgesaway.errors import Ahead
from edgesaway.graphs import changed, price_of


class Head:
    """A head with copies, of each of which it knows a life and an acknowledged position."""

    def __init__(self, schema, graph, leads):
        self._schema = schema
        self._graph = graph
        self._leads = leads
        self._commits = []
        self._known = [(0, 0) for _ in leads]

    @property
    def graph(self):
        """The graph."""
        return self._graph

    @property
    def position(self):
        """How many commits were done."""
        return len(self._commits)

    def known(self, number):
        """The known life and the acknowledged position of a copy."""
        return self._known[number]

    def hear(self, letter):
        """Hear a letter, and tell the letter that answers it, None if there is none."""
        word, number, life = letter[:3]
        known, acknowledged = self._known[number]
        if word == "wish" and life > 0 and life >= known:
            if life > known:
                self._known[number] = (life, self.position)
            return ("whole", number, life, self.position, self._graph)
        if word == "ack" and life == known and letter[3] > acknowledged:
            self._known[number] = (life, letter[3])
        return None

    def next_letter(self, number):
        """The letter with the commit behind the acknowledged position of a copy, None if there is none."""
        life, acknowledged = self._known[number]
        if life == 0 or acknowledged >= self.position:
            return None
        return ("entry", number, life, acknowledged + 1, self._commits[acknowledged])

    def checked(self, changes):
        """The graph behind changes; raises the errors of their commit."""
        graph = changed(self._schema, self._graph, changes)
        if changes:
            for number, lead in enumerate(self._leads):
                life, acknowledged = self._known[number]
                missed = [change for commit in self._commits[acknowledged:] for change in commit]
                if life > 0 and price_of(self._schema, [*missed, *changes]) > lead:
                    raise Ahead(number)
        return graph

    def commit(self, changes):
        """Do changes, and tell the position."""
        graph = self.checked(changes)
        if changes:
            self._graph = graph
            self._commits.append(changes)
        return self.position
