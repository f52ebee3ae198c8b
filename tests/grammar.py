"""The grammar of [62], and a reckoning of the first bad token that knows nothing but this grammar."""

import re

RESERVED = "kind label many single mark firm edge find way and or not stay at".split()

GRAMMAR = {
    "SCHEMA": [["KINDS", "LABELS"]],
    "KINDS": [["KIND"], ["KINDS", "KIND"]],
    "LABELS": [["LABEL"], ["LABELS", "LABEL"]],
    "KIND": [["kind", "NAME", "NUMBER", ";"]],
    "LABEL": [["label", "NAME", "NAME", "NAME", "RULE", "PRICE", ";"]],
    "RULE": [["many"], ["single"], ["mark"]],
    "PRICE": [["firm"], ["NUMBER"]],
    "EDGES": [[], ["EDGES", "edge", "NODE", "NAME", "NODE", ";"]],
    "NODE": [["NAME", "#", "NUMBER"]],
    "EXPRESSION": [["ROW"], ["EXPRESSION", "|", "ROW"]],
    "ROW": [["AGAIN"], ["ROW", "/", "AGAIN"]],
    "AGAIN": [["BOTTOM"], ["AGAIN", "*"], ["AGAIN", "+"], ["AGAIN", "?"]],
    "BOTTOM": [["stay"], ["NAME"], ["<", "NAME"], ["(", "EXPRESSION", ")"]],
    "QUESTION": [["find", ":", "FORMULA"], ["find", "NAME", ":", "FORMULA"],
                 ["find", "NAME", ",", "NAME", ":", "FORMULA"]],
    "FORMULA": [["ALL"], ["FORMULA", "or", "ALL"]],
    "ALL": [["NOT"], ["ALL", "and", "NOT"]],
    "NOT": [["WAY"], ["(", "FORMULA", ")"], ["not", "NOT"]],
    "WAY": [["way", "END", "[", "EXPRESSION", "]", "END"]],
    "END": [["NODE"], ["$", "NUMBER"]],
}


def sorts(token):
    """The terminals that a token can stand for."""
    if re.fullmatch("[a-z][a-z0-9]{0,7}", token) and token not in RESERVED:
        return {"NAME"}
    if re.fullmatch("0|[1-9][0-9]{0,3}", token):
        return {"NUMBER"}
    return {token}


def closed(items, sets):
    """All items that follow from some items (rule, place in it, where it began) without another token."""
    found = set(items)
    waiting = list(items)
    here = len(sets)
    while waiting:
        head, body, at, begun = waiting.pop()
        more = []
        if at < len(body) and body[at] in GRAMMAR:
            more = [(body[at], tuple(row), 0, here) for row in GRAMMAR[body[at]]]
            if [] in GRAMMAR[body[at]]:
                more.append((head, body, at + 1, begun))
        elif at == len(body):
            ahead = found if begun == here else sets[begun]
            more = [(h, b, a + 1, o) for h, b, a, o in list(ahead) if a < len(b) and b[a] == head]
        for item in more:
            if item not in found:
                found.add(item)
                waiting.append(item)
    return found


def first_bad(start, tokens):
    """The number that BadText tells for tokens, None if they are a text of the grammar."""
    sets = []
    items = closed([("", (start,), 0, 0)], sets)
    for at, token in enumerate(tokens):
        sets.append(items)
        items = closed([(h, b, a + 1, o) for h, b, a, o in items if a < len(b) and b[a] in sorts(token)], sets)
        if not items:
            return at
    return None if ("", (start,), 1, 0) in items else len(tokens)
