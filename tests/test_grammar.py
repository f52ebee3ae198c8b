"""The first bad token, against a reckoning from the grammar alone: [62], [64]."""

import unittest

from edgesaway.edgetexts import read_edges
from edgesaway.errors import AwayError, BadText
from edgesaway.expressiontexts import read_expression
from edgesaway.questiontexts import read_question
from edgesaway.schematexts import read_schema
from edgesaway.tokens import tokens_of
from tests.grammar import RESERVED, first_bad
from tests.support import PAIR, by_chance

POOL = [*RESERVED, *";#$</|*+?()[],:", "s", "t", "p", "u", "k", "zz", "0", "1", "9999", "00", "10000", "Big", "=", "-"]
TEXTS = {
    "SCHEMA": ["kind a 1 ; kind b 0 ; label l a a many firm ; label m a b single 3 ; label n b b mark 9 ;"],
    "EDGES": ["", "edge s#0 p s#1 ; edge s#2 u t#0 ; edge s#0 k s#0 ;"],
    "EXPRESSION": ["p", "( p | <u / stay ) * / q + | ( k ? ) ? / ( ( l ) )", "stay * + ? / p | q / u / v"],
    "QUESTION": [
        "find s , t : not ( way $0 [ p * | q ] s#1 or way t#0 [ ( v ) ] $1 ) and not not way $0 [ u ] $1",
        "find : way s#0 [ stay ] s#0",
        "find t : way $0 [ v / p ] s#0 or ( ( way $0 [ l ] $0 ) ) and way s#0 [ k ] s#0",
    ],
}


def bad_at(read, text):
    try:
        read(text)
    except BadText as error:
        return error.at
    except AwayError:
        return None
    return None


class FirstBadToken(unittest.TestCase):
    READERS = {
        "SCHEMA": read_schema,
        "EDGES": lambda text: read_edges(PAIR, text),
        "EXPRESSION": lambda text: read_expression(PAIR, text),
        "QUESTION": lambda text: read_question(PAIR, text),
    }

    def check(self, start, tokens):
        text = " ".join(tokens)
        self.assertEqual(tokens_of(text), tuple(tokens))
        self.assertEqual(bad_at(self.READERS[start], text), first_bad(start, tokens), (start, text))

    def test_each_place(self):
        for start, texts in TEXTS.items():
            for text in texts:
                tokens = text.replace("#", " # ").replace("<", "< ").replace("$", "$ ").split()
                self.check(start, tokens)
                for at in range(len(tokens) + 1):
                    self.check(start, tokens[:at])
                    self.check(start, tokens[:at] + tokens[at + 1:])
                    for wrong in POOL:
                        self.check(start, [*tokens[:at], wrong, *tokens[at + 1:]])
                        self.check(start, [*tokens[:at], wrong, *tokens[at:]])

    def test_by_chance(self):
        chance = by_chance(10)
        for _ in range(1500):
            start = chance.choice(list(TEXTS))
            tokens = chance.choice(TEXTS[start]).replace("#", " # ").replace("<", "< ").replace("$", "$ ").split()
            for _ in range(chance.randrange(1, 4)):
                at = chance.randrange(len(tokens) + 1)
                tokens[at:at + chance.randrange(2)] = chance.choices(POOL, k=chance.randrange(3))
            self.check(start, tokens)


if __name__ == "__main__":
    unittest.main()
