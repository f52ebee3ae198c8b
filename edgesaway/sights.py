"""Sights: answers that come from what is seen of a graph alone."""

from edgesaway.answers import answer_of, distance_of
from edgesaway.lags import told_word
from edgesaway.parts import part_graph, part_question, part_row, part_schema, whole_edge, whole_row
from edgesaway.questions import rows_of
from edgesaway.standings import standing_of
from edgesaway.truths import table_of, truth_of
from edgesaway.turnings import turning_of


def seen_parts(schema, sight, graph, question):
    """The parts of a schema, a graph and a question."""
    return part_schema(schema, sight), part_graph(schema, sight, graph), part_question(schema, sight, question)


def seen_table(schema, sight, graph, question):
    """The table of a question through a sight."""
    few, small, part = seen_parts(schema, sight, graph, question)
    return tuple([whole_row(sight, row) for row in table_of(few, small, part)])


def seen_truth(schema, sight, graph, question, row):
    """The truth of a row through a sight."""
    few, small, part = seen_parts(schema, sight, graph, question)
    return truth_of(few, small, part, part_row(sight, row))


def seen_standing(schema, sight, graph, question):
    """How far the table through a sight is from being otherwise, None if it never is."""
    few, small, part = seen_parts(schema, sight, graph, question)
    return standing_of(few, small, part)


def seen_distance(schema, sight, graph, question, row):
    """How far the truth of a row through a sight is from being otherwise, None if it never is."""
    few, small, part = seen_parts(schema, sight, graph, question)
    return distance_of(few, small, part, part_row(sight, row))


def seen_word(schema, sight, graph, question, row, lag):
    """How a row is told with a lag through a sight."""
    few, small, part = seen_parts(schema, sight, graph, question)
    return told_word(few, small, part, part_row(sight, row), lag)


def seen_answer(schema, sight, graph, question, row):
    """A right answer to a row through a sight."""
    few, small, part = seen_parts(schema, sight, graph, question)
    word, truth, price, papers = answer_of(few, small, part, part_row(sight, row))
    return (word, truth, price, tuple([whole_paper(sight, paper) for paper in papers]))


def seen_turning(schema, sight, graph, question, row):
    """A right turning of a row through a sight, None if its truth is never otherwise."""
    few, small, part = seen_parts(schema, sight, graph, question)
    changes = turning_of(few, small, part, part_row(sight, row))
    if changes is None:
        return None
    return tuple([(change[0], *whole_edge(sight, change[1:])) for change in changes])


def seen_rows(schema, sight, question):
    """The ascending tuple of the rows of a question with nodes that are seen."""
    few = part_schema(schema, sight)
    part = part_question(schema, sight, question)
    return tuple([whole_row(sight, row) for row in rows_of(few, part)])


def whole_paper(sight, paper):
    """A paper of the part, in the numbers of the whole."""
    word = paper[0]
    if word == "sure":
        return (word, whole_way(sight, paper[1]))
    if word == "never":
        return (word, whole_states(sight, paper[1]))
    if word == "flow":
        flow = tuple([(amount, whole_way(sight, way)) for amount, way in paper[2]])
        return (word, paper[1], flow, whole_states(sight, paper[3]))
    return (word, paper[1], whole_states(sight, paper[2]), whole_way(sight, paper[3]))


def whole_way(sight, way):
    """A way of the part, in the numbers of the whole."""
    return tuple([whole_edge(sight, edge) for edge in way])


def whole_states(sight, states):
    """States of the part, perhaps with heights, in the numbers of the whole."""
    return tuple([(sight[2][state[0]], sight[1][state[1]], *state[2:]) for state in states])
