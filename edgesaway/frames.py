"""Frames: the fitting words of a book by their steps, and the least sets of marks between these."""

from edgesaway.books import followers
from edgesaway.meaning import walk_ends
from edgesaway.schemas import is_mark
from edgesaway.trims import trimmed


def frame_of(schema, book, start, end):
    """The frame of a book between two kinds."""
    fitting = trimmed(schema, book, start, end)
    onward = followers(fitting)
    starts, stay = sets_ahead(schema, fitting, fitting[3], fitting[1] == 1)
    turns = []
    ends = []
    for step in fitting[2]:
        label = step[0]
        if not is_mark(schema, label):
            later, last = sets_ahead(schema, fitting, onward[label], label in fitting[5])
            turns.extend([(step, other, sets) for other, sets in later])
            if last:
                ends.append((step, last))
    return ("frame", stay, starts, tuple(turns), tuple(ends))


def sets_ahead(schema, book, labels, can_end):
    """What lies ahead where words go on with one of some labels, or end at once if can_end is told.

    A pair: the next steps, each with the least sets of marks ahead of it; and the least sets of marks behind which
    the words end without another step.
    """
    sets = {letter: [] for letter in book[2]}
    letters = {letter[0]: letter for letter in book[2]}
    ends = [()] if can_end else []
    for label, marks in mark_runs(schema, book, labels):
        if not is_mark(schema, label):
            sets[letters[label]].append(marks)
        elif label in book[5]:
            ends.append(with_mark(marks, label))
    return tuple([(step, least_sets(found)) for step, found in sets.items() if found]), least_sets(ends)


def mark_runs(schema, book, labels):
    """All pairs of a label, to which words that go on with one of some labels come by marks, and these marks."""
    onward = followers(book)
    seen = set()
    waiting = [(label, ()) for label in labels]
    while waiting:
        run = waiting.pop()
        if run in seen:
            continue
        seen.add(run)
        label, marks = run
        if is_mark(schema, label):
            more = with_mark(marks, label)
            waiting.extend([(later, more) for later in onward[label]])
    return sorted(seen)


def with_mark(marks, mark):
    """A set of marks with one mark more."""
    return marks if mark in marks else tuple(sorted([*marks, mark]))


def contains(marks, others):
    """Whether a set of marks contains another one."""
    return all([mark in marks for mark in others])


def least_sets(sets):
    """The ascending tuple of those sets that contain no other one."""
    # From small ones to great ones, so that what a set contains stands among the least ones already.
    least = []
    for _, marks in sorted([(len(one), one) for one in sets]):
        if not any([contains(marks, other) for other in least]):
            least.append(marks)
    return tuple(sorted(least))


def lies_at(graph, sets, node):
    """Whether some of several sets of marks lies at a node of a graph."""
    return any([all([(node, mark, node) in graph for mark in marks]) for marks in sets])


def nodes_behind(graph, gate):
    """The nodes to which the step of a gate, a pair of a node and a step, leads along edges of a graph."""
    node, step = gate
    walks = [walk_ends(step, edge) for edge in graph if edge[1] == step[0]]
    return [end for start, end in walks if start == node]


def frame_holds(schema, graph, frame, x, y):
    """Whether a frame holds in a graph from a node to another one."""
    _, stay, starts, turns, ends = frame
    if x == y and lies_at(graph, stay, x):
        return True
    gates = [(x, step) for step, sets in starts if lies_at(graph, sets, x)]
    walked = set()
    while gates:
        gate = gates.pop()
        if gate in walked:
            continue
        walked.add(gate)
        step = gate[1]
        for node in nodes_behind(graph, gate):
            if node == y and any([lies_at(graph, sets, y) for last, sets in ends if last == step]):
                return True
            onward = [(later, sets) for ahead, later, sets in turns if ahead == step]
            gates.extend([(node, later) for later, sets in onward if lies_at(graph, sets, node)])
    return False
