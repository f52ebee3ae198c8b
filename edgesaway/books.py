"""Books: which labels begin, follow one another and end in the words of an expression."""

from edgesaway.errors import TooLarge, Twice
from edgesaway.schemas import is_mark, label_name

MOST_LETTERS = 8


def parts_of(expression):
    """The tuple of the expressions that stand right within an expression."""
    return expression[1:] if expression[0] != "step" else ()


def inner_first(tree, parts):
    """All parts of a tree from left to right, each behind its own parts, the tree itself as the last one.

    parts is a function that tells the tuple of what stands right within a tree.
    """
    # A list of what waits, not a call within a call: long rows of "|" nest deeper than calls may.
    found = []
    waiting = [tree]
    while waiting:
        part = waiting.pop()
        found.append(part)
        waiting.extend(parts(part))
    found.reverse()
    return found


def labels_of(expression):
    """The tuple of the labels of an expression, from left to right."""
    return tuple([part[1] for part in inner_first(expression, parts_of) if part[0] == "step"])


def check_size(expression):
    """Raise an error if an expression has too many steps."""
    if len(labels_of(expression)) > MOST_LETTERS:
        raise TooLarge("expression")


def check_once(schema, labels):
    """Raise an error for the first label that stands ahead of its place already."""
    seen = set()
    for label in labels:
        if label in seen:
            raise Twice(label_name(schema, label))
        seen.add(label)


def check_expression(schema, expression):
    """Raise the first error that is due for an expression that shall have a book."""
    check_size(expression)
    check_once(schema, labels_of(expression))


def book_of(schema, expression):
    """The book of an expression."""
    check_expression(schema, expression)
    books = []
    for part in inner_first(expression, parts_of):
        if part[0] == "stay":
            books.append(("book", 1, (), (), (), ()))
        elif part[0] == "step":
            books.append(("book", 0, (part[1:],), part[1:2], (), part[1:2]))
        elif part[0] in ("then", "either"):
            right = books.pop()
            left = books.pop()
            books.append(book_then(left, right) if part[0] == "then" else book_either(left, right))
        else:
            books.append(book_again(part[0], books.pop()))
    return books.pop()


def put_together(*rows):
    """The ascending tuple of all that stands in some rows, each once."""
    return tuple(sorted(set([thing for row in rows for thing in row])))


def all_pairs(lasts, firsts):
    """The pairs of one of the last labels and one of the first ones."""
    return [(last, first) for last in lasts for first in firsts]


def book_then(left, right):
    """The book of the words of left, each followed by each word of right."""
    return (
        "book",
        left[1] * right[1],
        put_together(left[2], right[2]),
        put_together(left[3], right[3]) if left[1] == 1 else left[3],
        put_together(left[4], right[4], all_pairs(left[5], right[3])),
        put_together(left[5], right[5]) if right[1] == 1 else right[5],
    )


def book_either(left, right):
    """The book of the words of both."""
    return ("book", max(left[1], right[1]), *[put_together(left[at], right[at]) for at in range(2, 6)])


def book_again(word, book):
    """The book of the star, the plus or the maybe of a book."""
    _, empty, letters, firsts, follows, lasts = book
    if word != "maybe":
        follows = put_together(follows, all_pairs(lasts, firsts))
    return ("book", empty if word == "plus" else 1, letters, firsts, follows, lasts)


def ascends(things):
    """Whether a tuple ascends."""
    return all([ahead < behind for ahead, behind in zip(things, things[1:])])


def is_book(schema, book):
    """Whether a tuple of the shape of a book is one."""
    word, empty, letters, firsts, follows, lasts = book
    if word != "book" or empty not in (0, 1):
        return False
    if not all([ascends(things) for things in (letters, firsts, follows, lasts)]):
        return False
    labels = [label for label, _ in letters]
    if len(set(labels)) < len(labels) or not all([is_letter(schema, letter) for letter in letters]):
        return False
    used = [*firsts, *lasts, *[label for pair in follows for label in pair]]
    return all([label in labels for label in used])


def is_letter(schema, letter):
    """Whether a pair of integers is a letter of the schema."""
    label, back = letter
    if not 0 <= label < len(schema[2]) or back not in (0, 1):
        return False
    return back == 0 or not is_mark(schema, label)


def has_word(book, word):
    """Whether a tuple of labels is a word of a book."""
    _, empty, _, firsts, follows, lasts = book
    if not word:
        return empty == 1
    if word[0] not in firsts or word[-1] not in lasts:
        return False
    return all([pair in follows for pair in zip(word, word[1:])])


def followers(book):
    """For each label of a book the labels that can follow it."""
    found = {label: [] for label, _ in book[2]}
    for label, later in book[4]:
        found[label].append(later)
    return found


def turned_letter(schema, letter):
    """The letter that leads the other way along the edges of its label."""
    label, back = letter
    return letter if is_mark(schema, label) else (label, 1 - back)


def reversed_book(schema, book):
    """The book of the words of a book read from behind, with its letters leading the other way."""
    word, empty, letters, firsts, follows, lasts = book
    turned = tuple([turned_letter(schema, letter) for letter in letters])
    return (word, empty, turned, lasts, tuple(sorted([(later, label) for label, later in follows])), firsts)


def in_both(things, others):
    """What stands in both of two tuples, in the order of the first one."""
    return tuple([thing for thing in things if thing in others])


def meet(book, other):
    """The book of what two books have both."""
    letters = in_both(book[2], other[2])
    labels = [label for label, _ in letters]
    firsts, follows, lasts = [in_both(book[at], other[at]) for at in (3, 4, 5)]
    return (
        "book",
        book[1] * other[1],
        letters,
        in_both(firsts, labels),
        tuple([pair for pair in follows if pair[0] in labels and pair[1] in labels]),
        in_both(lasts, labels),
    )
