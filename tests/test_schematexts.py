"""The texts of schemas: [62] to [64]."""

import unittest

from edgesaway.errors import BadNumber, BadRule, BadText, TooLarge, Twice, Unknown
from edgesaway.schematexts import read_schema, write_schema
from tests.support import FLAT, PAIR, TOWN, raised

TEXT = """kind a 3 ;
kind b 2 ;
kind c 0 ;
label road a a many 2 ;
label over a b many 3 ;
label owner a b single 1 ;
label wall a a many firm ;
label red a a mark 1 ;
label blue b b mark 4 ;
label boss a a single 5 ;
label lost a c many 1 ;
"""
SHORT = "kind a 1 ; label l a a many 1 ;"


def tokens_spaced(text):
    for sign in ";#$</|*+?()[],:":
        text = text.replace(sign, f" {sign} ")
    return text.split()


class Write(unittest.TestCase):
    def test_told(self):
        self.assertEqual(write_schema(TOWN), TEXT)

    def test_read_back(self):
        for schema in (TOWN, FLAT, PAIR):
            text = write_schema(schema)
            self.assertEqual(read_schema(text), schema)
            self.assertEqual(read_schema("\n\n".join(tokens_spaced(text))), schema)
            self.assertEqual(read_schema("  " + text.replace("\n", "").replace(" ;", ";") + "   "), schema)


class Read(unittest.TestCase):
    def test_numbers(self):
        self.assertEqual(read_schema("kind a 0;label l a a many 9;"), ("schema", (("a", 0),), (("l", 0, 0, 9, "many"),)))
        self.assertEqual(read_schema("kind a 24;label l a a mark firm;"), ("schema", (("a", 24),), (("l", 0, 0, 0, "mark"),)))

    def test_bad_text_at_each_place(self):
        tokens = SHORT.split()
        for at in range(len(tokens)):
            # Nothing of this fits anywhere.
            for wrong in ("Big", "ninechars", "007", "12345", "1a", "=", "~", "<", "edge", "(", "]", "at", ":"):
                text = " ".join([*tokens[:at], wrong, *tokens[at + 1:]])
                self.assertEqual(raised(BadText, read_schema, text).at, at, text)
            text = " ".join(tokens[:at])
            self.assertEqual(raised(BadText, read_schema, text).at, at, text)

    def test_bad_text(self):
        told = [
            ("", 0), ("   \n", 0), ("kind", 1), ("kind kind 1 ;", 1), ("kind a b ;", 2), ("kind a 01 ;", 2),
            ("kind a 1 , ", 3), ("kind a 1 ; a", 4), ("label l a a many 1 ;", 0), (f"{SHORT} kind b 1 ;", 11),
            (f"{SHORT} ;", 11), (f"{SHORT} label", 12), ("kind a 1 ; label l a a firm 1 ;", 8),
            ("kind a 1 ; label l a a many many ;", 9), ("kind a 1 ; label l a a single l ;", 9),
            ("kind a 1 ; label l a a mark 10000 ;", 9), ("kind a 1 ; label l a 1 mark 1 ;", 7),
            ("kind a 1 ; label l a mark 1 ;", 7), ("kind a 1 kind b 1 ;", 3), ("kind A 1 ;", 1),
            ("kind a 1 ; kind label 1 ;", 5), ("kind a -1 ;", 2),
        ]
        for text, at in told:
            self.assertEqual(raised(BadText, read_schema, text).at, at, text)

    def test_errors_of_meaning(self):
        text = "kind a 1 ; label l a z many 1 ; label m z a many 0 ;"
        self.assertEqual(raised(BadNumber, read_schema, text).number, 0)
        text = "kind a 1 ; label l y z many 1 ; label m x a many 1 ;"
        self.assertEqual(raised(Unknown, read_schema, text).name, "y")
        text = "kind a 1 ; label l a z many 1 ; label m x a many 1 ;"
        self.assertEqual(raised(Unknown, read_schema, text).name, "z")
        text = "kind a 1 ; label l a l many 1 ;"
        self.assertEqual(raised(Unknown, read_schema, text).name, "l")
        text = "kind a 1 ; kind a 99 ; label l a z many 1 ;"
        self.assertEqual(raised(Unknown, read_schema, text).name, "z")
        seven = "".join(f"kind k{n} 1 ;" for n in range(7))
        self.assertEqual(raised(Unknown, read_schema, f"{seven} label l z k0 many 1 ;").name, "z")
        self.assertEqual(raised(TooLarge, read_schema, f"{seven} label l k0 k6 many 1 ;").part, "kinds")
        self.assertEqual(raised(BadNumber, read_schema, f"{seven} label l z k0 many 0 ;").number, 0)

    def test_errors_of_the_schema(self):
        thirteen = "".join(f"label l{n} a a many 1 ;" for n in range(13))
        self.assertEqual(raised(TooLarge, read_schema, f"kind a 25 ; {thirteen}").part, "labels")
        self.assertEqual(raised(Twice, read_schema, "kind a 1 ; kind a 2 ; label l a a many 1 ;").name, "a")
        self.assertEqual(raised(BadNumber, read_schema, "kind a 25 ; label a a a many 1 ;").number, 25)
        self.assertEqual(raised(BadNumber, read_schema, "kind a 9999 ; label l a a many 1 ;").number, 9999)
        self.assertEqual(raised(Twice, read_schema, "kind a 1 ; label a a a many 10 ;").name, "a")
        self.assertEqual(raised(BadNumber, read_schema, "kind a 1 ; label l a a many 10 ;").number, 10)
        self.assertEqual(raised(BadRule, read_schema, "kind a 20 ; kind b 5 ; label l a b mark 1 ;").name, "l")
        self.assertEqual(raised(TooLarge, read_schema, "kind a 20 ; kind b 5 ; label l a b many 1 ;").part, "nodes")

    def test_the_first_of_several_kinds_counts(self):
        # Both ends of the mark are the first kind named a, so its rule is right, and what is due is the name.
        text = "kind a 1 ; kind b 1 ; kind a 2 ; label l a a mark 1 ;"
        self.assertEqual(raised(Twice, read_schema, text).name, "a")


if __name__ == "__main__":
    unittest.main()
