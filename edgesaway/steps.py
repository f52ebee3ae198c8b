"""The steps of a deal: what each one told, and how they are gone through once more at a later head."""

from edgesaway.answers import distance_of
from edgesaway.errors import Otherwise
from edgesaway.graphs import check_many, outcome, with_change
from edgesaway.questions import labels_asked
from edgesaway.standings import standing_of
from edgesaway.truths import table_of, truth_of

ASK = "ask"
CHANGE = "change"


class WholeEyes:
    """How questions are told to a deal that sees all of a graph.

    A row of None stands for the whole table.
    """

    def __init__(self, schema):
        self._schema = schema

    def told_in(self, graph, question, row):
        """The table of a question in a graph, or the truth of a row."""
        if row is None:
            return table_of(self._schema, graph, question)
        return truth_of(self._schema, graph, question, row)

    def far_in(self, graph, question, row):
        """How far the table, or the truth of a row, is from being otherwise; None if it never is."""
        if row is None:
            return standing_of(self._schema, graph, question)
        return distance_of(self._schema, graph, question, row)


class Steps:
    """What a deal has done so far, and the graph that it sees."""

    def __init__(self, schema, eyes, graph, meters):
        self._schema = schema
        self._eyes = eyes
        self._begun = meters
        self.done = []
        self.seen = graph

    def tell(self, question, row):
        """Do the step of a question: tell its table, or the truth of a row."""
        told = self._eyes.told_in(self.seen, question, row)
        self.done.append((ASK, told, question, row, self.seen))
        return told

    def make(self, change):
        """Do the step of a change: tell what becomes of it."""
        word = outcome(self._schema, self.seen, change)
        self.done.append((CHANGE, word, change))
        if word == "done":
            self.seen = with_change(self.seen, change)
        return word

    def let_at(self, base, counter):
        """The graph behind all steps at the head of a base, if they are let there.

        The counter, the base itself or a window over it, counts the steps that are asked anew.
        """
        graph, anew, number = self._gone_through(base.graph, base.meters)
        counter.count_anew(anew)
        if number is not None:
            raise Otherwise(number)
        check_many(graph)
        return graph

    def _gone_through(self, graph, meters):
        """Go through all steps at a head.

        A triple: the graph behind them, how many of them were asked anew, and the number of the first one that is
        told otherwise, behind which none is gone through; None if there is no such step.
        """
        anew = 0
        for number, step in enumerate(self.done):
            if step[0] == CHANGE:
                _, told, change = step
                now = outcome(self._schema, graph, change)
                if now == told and told == "done":
                    graph = with_change(graph, change)
            elif self._stands(step, meters):
                continue
            else:
                _, told, question, row, _ = step
                anew += 1
                now = self._eyes.told_in(graph, question, row)
            if now != told:
                return graph, anew, number
        return graph, anew, None

    def _stands(self, step, meters):
        """Whether what a question told cannot be otherwise yet, by what the meters have gone on by."""
        _, _, question, row, graph = step
        spent = sum([meters[label] - self._begun[label] for label in labels_asked(question)])
        if spent == 0:
            return True
        far = self._eyes.far_in(graph, question, row)
        return far is None or far > spent
