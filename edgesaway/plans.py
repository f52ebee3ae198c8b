"""Plans: in what way the ways of a question are asked for rows."""

from edgesaway.books import book_of
from edgesaway.schemas import kind_of
from edgesaway.trims import has_fitting


def judge_plan(schema, indexes, question, plan):
    """Whether a plan fits a question."""
    waiting = [(question[2], plan)]
    while waiting:
        body, part = waiting.pop()
        if body[0] == "way":
            if not fits_way(schema, indexes, question, body, part):
                return False
        elif body[0] == "not":
            if not has_form(part, "not", 2):
                return False
            waiting.append((body[1], part[1]))
        else:
            if not is_parts(part, len(body[1])):
                return False
            waiting.extend(list(zip(body[1], part[2])))
    return True


def has_form(plan, word, many):
    """Whether a plan is a tuple of so many things that begins with a word."""
    return isinstance(plan, tuple) and len(plan) == many and plan[0] == word


def is_parts(plan, many):
    """Whether a plan has an order of so many parts and as many plans."""
    if not has_form(plan, "parts", 3):
        return False
    _, order, plans = plan
    if not isinstance(order, tuple) or not isinstance(plans, tuple) or len(order) != many or len(plans) != many:
        return False
    return all([number in order for number in range(many)])


def fits_way(schema, indexes, question, way, plan):
    """Whether a plan fits a way of a question."""
    if plan in (("forward",), ("backward",)):
        return True
    if not has_form(plan, "index", 2) and not has_form(plan, "prefix", 2):
        return False
    word, number = plan
    if not isinstance(number, int) or not 0 <= number < len(indexes):
        return False
    start, end = [end_kind(schema, question, place) for place in way[2:]]
    if word == "index":
        return indexes[number][1:4] == (way[1], start, end)
    return fits_prefix(schema, indexes[number], way[1], start)


def end_kind(schema, question, end):
    """The kind of an end of a way."""
    word, number = end
    return question[1][number] if word == "unknown" else kind_of(schema, number)


def fits_prefix(schema, index, expression, start):
    """Whether an index serves for the left part of an expression from a kind on, and leaves nothing out."""
    if expression[0] != "then" or index[1:3] != (expression[1], start):
        return False
    book = book_of(schema, expression[1])
    others = [kind for kind in range(len(schema[1])) if kind != index[3]]
    return not any([has_fitting(schema, book, start, kind) for kind in others])
