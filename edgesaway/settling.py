"""Settling: what stands of an answer when the graph has changed on the labels of its ways."""

from edgesaway.lags import word_within
from edgesaway.truths import combined


def settled(question, truths, prices, spent):
    """How a row is settled by the ways that stand: "yes", "no" or "open"."""
    words = [word_within(truth, price, part) for truth, price, part in zip(truths, prices, spent)]
    return combined(question, words)
