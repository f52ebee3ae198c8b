"""Deals told word by word: what their steps tell, and which of them are asked anew at a commit."""

from edgesaway.answers import distance_of
from edgesaway.graphs import outcome
from edgesaway.standings import standing_of
from tests.asking import rows_told, some_question, table_told, truth_told
from tests.stored import graph_told
from tests.support import all_edges


def labels_told(body):
    """The labels of a body."""
    if body[0] == "way":
        return steps_of(body[1])
    parts = body[1:] if body[0] == "not" else body[1]
    return [label for part in parts for label in labels_told(part)]


def steps_of(expression):
    if expression[0] == "step":
        return [expression[1]]
    return [label for part in expression[1:] for label in steps_of(part)]


class PlainDeal:
    """A deal as a list of its steps; every step is done anew in the graph that it sees."""

    def __init__(self, schema, graph, meters):
        self.schema, self.graph, self.meters = schema, graph, meters
        self.steps = []

    def tell(self, step, graph):
        word = step[0]
        if word == "ask":
            return table_told(self.schema, graph, step[1])
        if word == "look":
            return truth_told(self.schema, graph, step[1], step[2])
        return outcome(self.schema, graph, step)

    def behind(self, step, told, graph):
        return graph_told(graph, [step]) if told == "done" else graph

    def do(self, step):
        told = self.tell(step, self.graph)
        self.steps.append((step, told, self.graph))
        self.graph = self.behind(step, told, self.graph)
        return told

    def far(self, step, graph):
        if step[0] == "ask":
            return standing_of(self.schema, graph, step[1])
        return distance_of(self.schema, graph, step[1], step[2])

    def commit(self, graph, meters):
        """The graph behind the steps at a head (or the number of the first refused one), and the steps asked anew."""
        anew = []
        for number, (step, told, seen) in enumerate(self.steps):
            if step[0] in ("ask", "look"):
                spent = sum(meters[label] - self.meters[label] for label in labels_told(step[1][2]))
                far = self.far(step, seen)
                if far is None or far > spent:
                    # What stands must be told the same, or the store is wrong.
                    assert self.tell(step, graph) == told
                    continue
                anew.append(number)
            now = self.tell(step, graph)
            if now != told:
                return number, anew
            graph = self.behind(step, now, graph)
        return graph, anew


def do_step(deal, step):
    """Do a step of a real deal."""
    if step[0] == "ask":
        return deal.ask(step[1])
    if step[0] == "look":
        return deal.look(*step[1:])
    return deal.put(*step[1:]) if step[0] == "put" else deal.take(*step[1:])


def some_step(schema, graph, chance):
    """A step that a deal with this graph could do; changes are of edges that are let and not firm."""
    word = chance.choice(("ask", "look", "look", "put", "take", "take"))
    if word in ("ask", "look"):
        question = some_question(schema, chance, chance.randrange(2), 2)
        rows = rows_told(schema, question)
        if word == "look" and rows:
            return "look", question, chance.choice(rows)
        return "ask", question
    edges = [edge for edge in all_edges(schema) if schema[2][edge[1]][3] > 0]
    if word == "take" and chance.random() < 0.8:
        edges = [edge for edge in edges if edge in graph] or edges
    return word, *chance.choice(edges)
