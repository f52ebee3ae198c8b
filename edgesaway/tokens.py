"""The tokens of a text, and which of them are numbers."""

from edgesaway.schemas import DIGITS

RUN_SIGNS = "abcdefghijklmnopqrstuvwxyzABCDEFGHIJKLMNOPQRSTUVWXYZ0123456789"
GAPS = " \n"
LONGEST_NUMBER = 4


def tokens_of(text):
    """The tuple of the tokens of a text, as strings."""
    tokens = []
    run = ""
    for sign in text:
        if sign in RUN_SIGNS:
            run += sign
            continue
        if run:
            tokens.append(run)
            run = ""
        if sign not in GAPS:
            tokens.append(sign)
    if run:
        tokens.append(run)
    return tuple(tokens)


def is_number(token):
    """Whether a token is a NUMBER."""
    if not 1 <= len(token) <= LONGEST_NUMBER:
        return False
    for sign in token:
        if sign not in DIGITS:
            return False
    return token == "0" or token[0] != "0"
