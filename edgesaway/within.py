"""Books within one another: whether the one joins only what the other one joins, too."""

from edgesaway.frames import contains, frame_of
from edgesaway.meaning import letter_ends

START = "start"
END = "end"


def within(schema, book, other, start, end):
    """Whether a book is within another one between two kinds."""
    return parting(schema, book, other, start, end) is None


def alike(schema, book, other, start, end):
    """Whether two books are each within the other between two kinds."""
    return within(schema, book, other, start, end) and within(schema, other, book, start, end)


def parting(schema, book, other, start, end):
    """A line with the least number of steps that the one book joins and the other one does not, None if none is."""
    # In a line the other book can only go on from node to node with the same steps, so what it needs between two
    # steps is told by these two alone: it misses a line exactly if it lacks one leg of it.
    rivals = {(ahead, behind): sets for ahead, behind, sets in legs_of(frame_of(schema, other, start, end))}
    legs = []
    for ahead, behind, sets in legs_of(frame_of(schema, book, start, end)):
        against = rivals.get((ahead, behind), ())
        for marks in sets:
            covered = any([contains(marks, least) for least in against])
            legs.append((ahead, behind, marks, not covered))
    row = shortest_row(legs)
    return None if row is None else line_along(schema, start, row)


def legs_of(frame):
    """A frame as one list of legs: what stands ahead of a node, what stands behind it, and the sets between."""
    _, stay, starts, turns, ends = frame
    legs = [(START, END, stay)]
    legs.extend([(START, step, sets) for step, sets in starts])
    legs.extend(turns)
    legs.extend([(step, END, sets) for step, sets in ends])
    return legs


def shortest_row(legs):
    """The fewest legs from the start to the end of which one at least is missed, None if there are none.

    A row is a tuple with a pair for each node: its marks, and the step that leads on from it.
    """
    rows = [((START, False), ())]
    seen = set()
    while rows:
        longer = []
        for (place, missed), row in rows:
            for ahead, behind, marks, lacking in legs:
                state = (behind, missed or lacking)
                if ahead != place or state in seen:
                    continue
                seen.add(state)
                longer.append((state, (*row, (marks, behind))))
                if state == (END, True):
                    return longer[-1][1]
        rows = longer
    return None


def line_along(schema, start, row):
    """The line with a node for each pair of a row."""
    kinds = [start]
    for _, step in row[:-1]:
        kinds.append(letter_ends(schema, step)[1])
    ranked = sorted([(kind, at) for at, kind in enumerate(kinds)])
    numbers = {at: number for number, (_, at) in enumerate(ranked)}
    edges = []
    for at, (marks, step) in enumerate(row):
        node = numbers[at]
        edges.extend([(node, mark, node) for mark in marks])
        if step != END:
            label, back = step
            later = numbers[at + 1]
            edges.append((later, label, node) if back == 1 else (node, label, later))
    sizes = tuple([kinds.count(kind) for kind in range(len(schema[1]))])
    return ("parting", sizes, tuple(sorted(edges)), numbers[0], numbers[len(row) - 1])
