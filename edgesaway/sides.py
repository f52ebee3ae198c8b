"""Sides: sets of states that no edge leads out of, which show that nodes are not joined."""

from edgesaway.books import ascends
from edgesaway.meaning import is_last, leads_of, letter_ends, stays
from edgesaway.schemas import kind_of


def opened(book, x, side):
    """The ascending tuple of the gates that a side opens in a search from x."""
    gates = {(x, label): True for label in book[3]}
    for node, walked in side:
        for label, later in book[4]:
            if label == walked:
                gates[(node, later)] = True
    return tuple(sorted(gates))


def is_side(schema, book, side):
    """Whether a tuple of pairs of integers is a side of a book."""
    kinds = {letter[0]: letter_ends(schema, letter)[1] for letter in book[2]}
    if not ascends(side):
        return False
    return all([label in kinds and kind_of(schema, node) == kinds[label] for node, label in side])


def is_closed(schema, graph, book, x, side):
    """Whether a tuple of pairs of integers is a side that is closed in a graph."""
    if not is_side(schema, book, side):
        return False
    leads = leads_of(graph, book)
    inside = set(side)
    return all([state in inside for gate in opened(book, x, side) for _, state in leads.get(gate, [])])


def bars(schema, graph, book, x, y, side):
    """Whether a tuple of pairs of integers is a closed side that shows that two nodes are not joined."""
    if stays(book, x, y) or any([is_last(book, y, state) for state in side]):
        return False
    return is_closed(schema, graph, book, x, side)
