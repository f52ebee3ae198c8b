"""The tokens of a text: [61]."""

import unittest

from edgesaway.tokens import tokens_of


class Tokens(unittest.TestCase):
    def test_told(self):
        told = [
            ("", ()),
            (" \n  \n", ()),
            ("a", ("a",)),
            ("a1 Bc9z 007 12345 kind", ("a1", "Bc9z", "007", "12345", "kind")),
            ("a#0", ("a", "#", "0")),
            ("find:way$0[a/<b]c#1", ("find", ":", "way", "$", "0", "[", "a", "/", "<", "b", "]", "c", "#", "1")),
            (";#$</|*+?()[],:", tuple(";#$</|*+?()[],:")),
            ("**++??", ("*", "*", "+", "+", "?", "?")),
            ("a\nb  c\n\nd", ("a", "b", "c", "d")),
            ("a-b=c_d~!", ("a", "-", "b", "=", "c", "_", "d", "~", "!")),
            ("\"'\\", ("\"", "'", "\\")),
            ("kinda 3;", ("kinda", "3", ";")),
            ("0x 1a", ("0x", "1a")),
            ("ABCdefGHIjklMNO123", ("ABCdefGHIjklMNO123",)),
        ]
        for text, tokens in told:
            self.assertEqual(tokens_of(text), tokens, text)

    def test_all_characters(self):
        for code in range(32, 127):
            sign = chr(code)
            if sign == " ":
                self.assertEqual(tokens_of("a b"), ("a", "b"))
            elif sign.isalnum():
                self.assertEqual(tokens_of(f"a{sign}b"), (f"a{sign}b",))
            else:
                self.assertEqual(tokens_of(f"a{sign}{sign}b"), ("a", sign, sign, "b"))


if __name__ == "__main__":
    unittest.main()
