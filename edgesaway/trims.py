"""Trimmed books: what is left of a book between two kinds."""

from edgesaway.meaning import letter_ends


def trimmed(schema, book, start, end):
    """The book of the words of a book that fit between two kinds."""
    kinds = {letter[0]: letter_ends(schema, letter) for letter in book[2]}
    firsts = [label for label in book[3] if kinds[label][0] == start]
    follows = [(label, later) for label, later in book[4] if kinds[label][1] == kinds[later][0]]
    lasts = [label for label in book[5] if kinds[label][1] == end]
    begun = come_to(firsts, follows)
    ended = come_to(lasts, [(later, label) for label, later in follows])
    whole = [label for label in begun if label in ended]
    return (
        "book",
        1 if book[1] == 1 and start == end else 0,
        tuple([letter for letter in book[2] if letter[0] in whole]),
        tuple([label for label in firsts if label in whole]),
        tuple([pair for pair in follows if pair[0] in whole and pair[1] in whole]),
        tuple([label for label in lasts if label in whole]),
    )


def come_to(labels, follows):
    """The labels to which pairs lead from some labels on, these among them."""
    found = {label: True for label in labels}
    waiting = list(labels)
    while waiting:
        ahead = waiting.pop()
        for label, later in follows:
            if label == ahead and later not in found:
                found[later] = True
                waiting.append(later)
    return list(found)


def has_fitting(schema, book, start, end):
    """Whether some word of a book fits between two kinds."""
    fitting = trimmed(schema, book, start, end)
    return fitting[1] == 1 or len(fitting[2]) > 0
