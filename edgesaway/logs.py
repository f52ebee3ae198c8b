"""The log: the changes of commits, spread over blocks, and which of them are in force when they are read."""

from edgesaway.pages import cut_up

MOST_BLOCK_CHANGES = 4


def log_blocks(number, position, changes):
    """The tuple of the log blocks of a commit, behind a root with this number."""
    parts = cut_up(changes, MOST_BLOCK_CHANGES)
    return tuple([("log", number, position, at, len(parts), part) for at, part in enumerate(parts)])


def taken_commits(blocks, number, position):
    """The tuple of the commits in force, in the order of the log, behind a root with this number and position."""
    commits = []
    changes = ()
    expected = ("log", number, position + 1, 0)
    for block in blocks:
        if block is None or block[:4] != expected:
            break
        _, _, place, part, parts, more = block
        changes = changes + more
        expected = ("log", number, place, part + 1)
        if part + 1 == parts:
            commits.append(changes)
            changes = ()
            expected = ("log", number, place + 1, 0)
    return tuple(commits)
