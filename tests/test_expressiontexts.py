"""The texts of expressions: [61] to [64]."""

import unittest

from edgesaway.books import labels_of
from edgesaway.errors import BadRule, BadText, TooLarge, Twice, Unknown
from edgesaway.expressiontexts import read_expression, write_expression
from tests.support import FLAT, TOWN, by_chance, raised, some_expression

A, B, C, D = (("step", label, 0) for label in (0, 1, 2, 3))
STAY = ("stay",)
LONG = ("schema", (("n", 1),), tuple((f"l{n}", 0, 0, 1, "many") for n in range(10)) + (("m", 0, 0, 1, "mark"),))


def bracketed(expression, names):
    """A text of an expression with parentheses around each part."""
    word = expression[0]
    if word == "stay":
        return "(stay)"
    if word == "step":
        return f"({'<' * expression[2]}{names[expression[1]]})"
    if word in ("then", "either"):
        return f"({bracketed(expression[1], names)}{'/|'[word == 'either']}{bracketed(expression[2], names)})"
    return f"(({bracketed(expression[1], names)}){'*+?'[('star', 'plus', 'maybe').index(word)]})"


def without_a_pair(text):
    """The texts from which one pair of parentheses is taken."""
    tokens = text.split()
    ahead = []
    for at, token in enumerate(tokens):
        if token == "(":
            ahead.append(at)
        elif token == ")":
            begun = ahead.pop()
            yield " ".join([*tokens[:begun], *tokens[begun + 1:at], *tokens[at + 1:]])


class Write(unittest.TestCase):
    def test_told(self):
        told = [
            (STAY, "stay"),
            (A, "p"),
            (("step", 1, 1), "<q"),
            (("then", A, B), "p / q"),
            (("either", ("step", 0, 1), STAY), "<p | stay"),
            (("then", ("then", A, B), C), "p / q / r"),
            (("then", A, ("then", B, C)), "p / ( q / r )"),
            (("either", ("either", A, B), C), "p | q | r"),
            (("either", A, ("either", B, C)), "p | ( q | r )"),
            (("either", ("then", A, B), ("then", C, D)), "p / q | r / k"),
            (("then", ("either", A, B), ("either", C, D)), "( p | q ) / ( r | k )"),
            (("then", A, ("either", B, C)), "p / ( q | r )"),
            (("either", A, ("then", B, C)), "p | q / r"),
            (("star", A), "p *"),
            (("plus", ("star", ("maybe", ("step", 0, 1)))), "<p ? * +"),
            (("maybe", ("then", A, B)), "( p / q ) ?"),
            (("plus", ("either", A, B)), "( p | q ) +"),
            (("star", ("plus", ("either", A, B))), "( p | q ) + *"),
            (("then", ("star", A), ("maybe", B)), "p * / q ?"),
            (("then", ("star", ("then", A, B)), C), "( p / q ) * / r"),
            (("star", STAY), "stay *"),
        ]
        for expression, text in told:
            self.assertEqual(write_expression(FLAT, expression), text)
            self.assertEqual(read_expression(FLAT, text), expression)

    def test_read_back(self):
        chance = by_chance(11)
        for _ in range(300):
            expression = some_expression(FLAT, chance, list(range(6)), 5)
            text = write_expression(FLAT, expression)
            self.assertEqual(read_expression(FLAT, text), expression)
            self.assertEqual(read_expression(FLAT, text.replace(" ", "\n \n").replace("<", "<  ")), expression)
            self.assertEqual(read_expression(FLAT, text.replace(" ", "")), expression)
            self.assertEqual(read_expression(FLAT, bracketed(expression, "pqrklm")), expression)
            self.assertEqual(text, " ".join(text.split()))
            for less in without_a_pair(text):
                try:
                    self.assertNotEqual(read_expression(FLAT, less), expression, text)
                except BadText:
                    self.fail(text)

    def test_needless_parentheses(self):
        self.assertEqual(write_expression(FLAT, read_expression(FLAT, "((p))|((q/(r)))/(k)")), "p | q / r / k")


class Read(unittest.TestCase):
    def test_associates_to_the_left(self):
        self.assertEqual(read_expression(FLAT, "p/q/r"), ("then", ("then", A, B), C))
        self.assertEqual(read_expression(FLAT, "p|q|r"), ("either", ("either", A, B), C))
        self.assertEqual(read_expression(FLAT, "p|q/r*"), ("either", A, ("then", B, ("star", C))))

    def test_bad_text(self):
        told = [
            ("", 0), ("*", 0), ("p q", 1), ("p /", 2), ("p | | q", 2), ("( p", 2), ("( )", 1), ("p )", 1), ("< < p", 1),
            ("< stay", 1), ("< ( p )", 1), ("stay p", 1), ("stay stay", 1), ("p * q", 2), ("( p | q ) / r )", 7),
            ("p ; ", 1), ("P", 0), ("p / way", 2), ("at", 0), ("p [", 1), ("p #", 1), ("12", 0), ("p = q", 1), ("p /(", 3),
        ]
        for text, at in told:
            self.assertEqual(raised(BadText, read_expression, FLAT, text).at, at, text)

    def test_bad_text_goes_ahead(self):
        self.assertEqual(raised(BadText, read_expression, FLAT, "nobody / <k / p / p /").at, 9)
        self.assertEqual(raised(BadText, read_expression, FLAT, "/".join(["p"] * 9) + ")").at, 17)

    def test_names(self):
        self.assertEqual(raised(Unknown, read_expression, FLAT, "p / z").name, "z")
        # A kind is no label.
        self.assertEqual(raised(Unknown, read_expression, FLAT, "n").name, "n")
        self.assertEqual(raised(Unknown, read_expression, FLAT, "<z").name, "z")
        self.assertEqual(raised(BadRule, read_expression, FLAT, "p / <k").name, "k")
        self.assertEqual(read_expression(FLAT, "k"), ("step", 3, 0))
        self.assertEqual(read_expression(TOWN, "<boss"), ("step", 6, 1))

    def test_from_left_to_right(self):
        self.assertEqual(raised(Unknown, read_expression, FLAT, "y / z").name, "y")
        self.assertEqual(raised(Unknown, read_expression, FLAT, "( z | y ) / <k").name, "z")
        self.assertEqual(raised(BadRule, read_expression, FLAT, "<l / z / <k").name, "l")
        self.assertEqual(raised(Unknown, read_expression, FLAT, "p / p / z").name, "z")
        self.assertEqual(raised(BadRule, read_expression, FLAT, "p / p / <m").name, "m")

    def test_book(self):
        names = [f"l{n}" for n in range(10)]
        self.assertEqual(labels_of(read_expression(LONG, "/".join(names[:8]))), tuple(range(8)))
        self.assertEqual(raised(TooLarge, read_expression, LONG, "|".join(names[:9])).part, "expression")
        self.assertEqual(raised(TooLarge, read_expression, LONG, "/".join(["l0"] * 9)).part, "expression")
        self.assertEqual(raised(Twice, read_expression, LONG, "l0/l1/(l2|<l1)/l0").name, "l1")
        self.assertEqual(raised(Twice, read_expression, LONG, "m|m").name, "m")
        self.assertEqual(raised(Unknown, read_expression, LONG, "/".join(["l0"] * 9 + ["z"])).name, "z")

    def test_twenty(self):
        text = "(" * 20 + "p" + ")" * 20
        self.assertEqual(read_expression(FLAT, text), A)
        self.assertEqual(read_expression(FLAT, "(" * 20 + "p" + "|stay)" * 20)[2], STAY)
        text = "p" + "*+?*+" * 4
        expression = read_expression(FLAT, text)
        self.assertEqual(write_expression(FLAT, expression), " ".join(text))
        deep = "(" * 20 + "p" + ("*+?*+" * 4 + ")") * 20
        self.assertEqual(write_expression(FLAT, read_expression(FLAT, deep)), "p " + " ".join("*+?*+" * 80))

    def test_long_rows(self):
        text = " | ".join(["stay"] * 500 + ["p"])
        self.assertEqual(write_expression(FLAT, read_expression(FLAT, text)), text)
        text = " / ".join(["stay"] * 500)
        self.assertEqual(write_expression(FLAT, read_expression(FLAT, text)), text)


if __name__ == "__main__":
    unittest.main()
