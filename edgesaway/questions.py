"""Questions, their ways and their rows."""

from edgesaway.books import check_once, check_size, inner_first, labels_of
from edgesaway.errors import TooLarge
from edgesaway.schemas import kind_of, nodes_of

MOST_WAYS = 8


def parts_of_body(body):
    """The tuple of the bodies that stand right within a body."""
    if body[0] == "way":
        return ()
    return body[1:] if body[0] == "not" else body[1]


def inner_bodies(question):
    """All bodies of a question from left to right, each behind its own parts."""
    return inner_first(question[2], parts_of_body)


def folded(question, leaves, combine):
    """What becomes of things for the ways of a question, when they are combined body by body.

    combine is a function of the word of a body and the list of what became of its parts.
    """
    waiting = list(leaves[::-1])
    found = []
    for body in inner_bodies(question):
        if body[0] == "way":
            found.append(waiting.pop())
        else:
            at = len(found) - len(parts_of_body(body))
            found[at:] = [combine(body[0], found[at:])]
    return found[0]


def ways_of(question):
    """The tuple of the ways of a question, from left to right."""
    return tuple([body for body in inner_bodies(question) if body[0] == "way"])


def check_question(schema, question):
    """Raise the first error of a question that is due."""
    ways = ways_of(question)
    if len(ways) > MOST_WAYS:
        raise TooLarge("question")
    for way in ways:
        check_size(way[1])
    check_once(schema, labels_asked(question))


def labels_asked(question):
    """The list of the labels of a question, from left to right."""
    return [label for way in ways_of(question) for label in labels_of(way[1])]


def rows_of(schema, question):
    """All rows of a question, in order."""
    unknowns = question[1]
    if not unknowns:
        yield ()
        return
    if len(unknowns) == 1:
        for node in nodes_of(schema, unknowns[0]):
            yield (node,)
        return
    for node in nodes_of(schema, unknowns[0]):
        for other in nodes_of(schema, unknowns[1]):
            yield (node, other)


def is_row(schema, question, row):
    """Whether a tuple of integers is a row of a question."""
    return tuple([kind_of(schema, node) for node in row]) == question[1]


def end_node(end, row):
    """The node that a row makes of an end."""
    word, number = end
    return row[number] if word == "unknown" else number


def row_ends(question, row):
    """For each way of a question the pair of nodes that a row makes of its ends."""
    return tuple([(end_node(way[2], row), end_node(way[3], row)) for way in ways_of(question)])
