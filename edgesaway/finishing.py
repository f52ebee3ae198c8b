"""Finishing: what is told of a table in the end."""


def finished(table, finish):
    """What a finish tells of a table."""
    word = finish[0]
    if word == "all":
        return table
    if word == "count":
        return len(table)
    if word == "first":
        return table[:finish[1]]
    counts = {}
    for row in table:
        node = row[finish[1]]
        counts[node] = counts.get(node, 0) + 1
    return tuple(sorted(counts.items())) if word == "by" else tuple(sorted(counts))
