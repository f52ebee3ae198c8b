"""The tree of error classes."""

import unittest

from edgesaway import errors

TREE = {
    "SchemaError": [("BadName", "name"), ("Twice", "name"), ("BadNumber", "number"), ("BadRule", "name"),
                    ("Unknown", "name")],
    "ChangeError": [("BadEdge", "edge"), ("Firm", "name"), ("There", "edge"), ("Held", "edge"), ("Gone", "edge")],
    "TextError": [("BadText", "at"), ("BadRow", None)],
    "LimitError": [("TooLarge", "part"), ("TooMany", "part"), ("Ahead", "number")],
    "DealError": [("Otherwise", "number"), ("Ended", None)],
    "DiskError": [("BadPlace", "at"), ("NoStore", None), ("CutOff", None), ("Down", None)],
    "SightError": [("BadSight", "name"), ("Unseen", "name")],
    "LetterError": [("NoLetter", "number"), ("Blank", None)],
}
THINGS = {"name": "road", "number": 7, "edge": (0, 1, 2), "at": 3, "part": "kinds"}


class Errors(unittest.TestCase):
    def test_tree(self):
        self.assertEqual(errors.AwayError.__bases__, (ValueError,))
        for above, below in TREE.items():
            self.assertEqual(getattr(errors, above).__bases__, (errors.AwayError,))
            for name, _ in below:
                self.assertEqual(getattr(errors, name).__bases__, (getattr(errors, above),), name)

    def test_arguments(self):
        for below in TREE.values():
            for name, attribute in below:
                kind = getattr(errors, name)
                if attribute is None:
                    self.assertEqual(vars(kind()), {})
                else:
                    thing = THINGS[attribute]
                    self.assertEqual(vars(kind(thing)), {attribute: thing})
                    self.assertEqual(vars(kind(**{attribute: thing})), {attribute: thing})

    def test_nothing_else(self):
        names = {name for name, thing in vars(errors).items() if isinstance(thing, type)}
        told = {"AwayError", *TREE, *[name for below in TREE.values() for name, _ in below]}
        self.assertEqual(names, told)


if __name__ == "__main__":
    unittest.main()
