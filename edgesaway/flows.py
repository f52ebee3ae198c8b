"""Judges of papers of a yes: flows of ways that only a cut of the same price breaks, and ways that are sure."""

from edgesaway.meaning import is_last, is_way, leads_of, stays
from edgesaway.schemas import is_firm, label_price
from edgesaway.sides import is_side, opened


def cut_of(schema, graph, book, x, side):
    """The ascending tuple of the edges of a graph that lead out of a side."""
    leads = leads_of(graph, book)
    inside = set(side)
    walks = [walk for gate in opened(book, x, side) for walk in leads.get(gate, [])]
    return tuple(sorted([edge for edge, state in walks if state not in inside]))


def lies_in(graph, way):
    """Whether all edges of a way are edges of a graph."""
    edges = set(graph)
    return all([edge in edges for edge in way])


def judge_sure(schema, graph, book, x, y, paper):
    """Whether a paper is a way in a graph of firm edges alone."""
    word, way = paper
    if word != "sure" or not is_way(schema, book, x, y, way) or not lies_in(graph, way):
        return False
    return all([is_firm(schema, edge[1]) for edge in way])


def judge_flow(schema, graph, book, x, y, paper):
    """Whether a paper is a flow of ways with a side whose cut has the same price."""
    word, price, flow, side = paper
    if word != "flow" or price < 1 or stays(book, x, y):
        return False
    if not is_flow(schema, graph, book, x, y, flow) or sum([amount for amount, _ in flow]) != price:
        return False
    if not is_side(schema, book, side) or any([is_last(book, y, state) for state in side]):
        return False
    labels = [edge[1] for edge in cut_of(schema, graph, book, x, side)]
    if any([is_firm(schema, label) for label in labels]):
        return False
    return sum([label_price(schema, label) for label in labels]) == price


def is_flow(schema, graph, book, x, y, flow):
    """Whether pairs are ways in a graph with amounts that no edge has too much of."""
    for amount, way in flow:
        if amount < 1 or not is_way(schema, book, x, y, way) or not lies_in(graph, way):
            return False
    loads = {}
    for amount, way in flow:
        for edge in way:
            loads[edge] = loads.get(edge, 0) + amount
    return all([load <= label_price(schema, edge[1]) for edge, load in loads.items() if not is_firm(schema, edge[1])])
