"""Going through the tokens of a text."""

from edgesaway.errors import BadNumber, BadRule, BadText, Unknown
from edgesaway.schemas import first_node, is_mark, is_name
from edgesaway.tokens import is_number, tokens_of


class Reader:
    """Goes through the tokens of a text, from left to right.

    Without a schema it looks at the form of the text alone: each kind, label and number is let then, and is told
    as 0. So a text is gone through once for its form, and once more for what its names and numbers mean.
    """

    def __init__(self, schema, text):
        self.read_for = schema
        self.tokens = tokens_of(text)
        self.at = 0

    def token(self):
        """The token at hand, an empty string behind the last one."""
        return self.tokens[self.at] if self.at < len(self.tokens) else ""

    def sees(self, word):
        """Whether this word is at hand."""
        return self.token() == word

    def skip(self, word):
        """Go on if this word is at hand, and tell whether it was."""
        if not self.sees(word):
            return False
        self.at += 1
        return True

    def take(self, word):
        """Go on by this word."""
        if not self.skip(word):
            raise BadText(self.at)

    def take_name(self):
        """Go on by a NAME, and tell it."""
        name = self.token()
        if not is_name(name):
            raise BadText(self.at)
        self.at += 1
        return name

    def take_number(self):
        """Go on by a NUMBER, and tell it."""
        number = self.token()
        if not is_number(number):
            raise BadText(self.at)
        self.at += 1
        return int(number)

    def take_one_of(self, words):
        """Go on by one of some words, and tell it."""
        word = self.token()
        if word not in words:
            raise BadText(self.at)
        self.at += 1
        return word

    def take_kind(self):
        """Go on by the name of a kind, and tell its number."""
        name = self.take_name()
        return 0 if self.read_for is None else number_named(self.read_for[1], name)

    def take_label(self):
        """Go on by the name of a label, and tell its number."""
        name = self.take_name()
        return 0 if self.read_for is None else number_named(self.read_for[2], name)

    def take_letter(self):
        """Go on by the name of a label, perhaps with a sign for walking back ahead of it, and tell its letter."""
        back = 1 if self.skip("<") else 0
        name = self.token()
        label = self.take_label()
        if self.read_for is not None and back == 1 and is_mark(self.read_for, label):
            raise BadRule(name)
        return (label, back)

    def take_node(self):
        """Go on by the text of a node, and tell the node."""
        kind = self.take_kind()
        self.take("#")
        number = self.take_number()
        if self.read_for is None:
            return 0
        if number >= self.read_for[1][kind][1]:
            raise BadNumber(number)
        return first_node(self.read_for, kind) + number

    def finish(self):
        """Raise an error if something is left."""
        if self.at < len(self.tokens):
            raise BadText(self.at)


def number_named(rows, name):
    """The number of the kind or label with this name."""
    for number, row in enumerate(rows):
        if row[0] == name:
            return number
    raise Unknown(name)
