"""The error classes; each keeps its argument as an attribute."""


class AwayError(ValueError):
    """All errors of this package stand under it."""


class SchemaError(AwayError):
    """Something is wrong with a schema, or with a name or number in it."""


class ChangeError(AwayError):
    """A change of an edge cannot be done."""


class TextError(AwayError):
    """A text or a line is not of the told form."""


class LimitError(AwayError):
    """Something is more than is let."""


class DealError(AwayError):
    """A deal cannot go on."""


class DiskError(AwayError):
    """A disk cannot do, or does not hold, what is asked for."""


class SightError(AwayError):
    """A sight is wrong, or something is not seen through it."""


class LetterError(AwayError):
    """There is no such letter, or no copy that could tell something."""


class BadName(SchemaError):
    """This is no name."""

    def __init__(self, name):
        self.name = name


class Twice(SchemaError):
    """This name stands twice."""

    def __init__(self, name):
        self.name = name


class BadNumber(SchemaError):
    """This number is out of its range."""

    def __init__(self, number):
        self.number = number


class BadRule(SchemaError):
    """The label of this name has a wrong rule, or is a mark that is walked back."""

    def __init__(self, name):
        self.name = name


class Unknown(SchemaError):
    """Nothing has this name."""

    def __init__(self, name):
        self.name = name


class BadEdge(ChangeError):
    """This edge is not let."""

    def __init__(self, edge):
        self.edge = edge


class Firm(ChangeError):
    """The label of this name is firm."""

    def __init__(self, name):
        self.name = name


class There(ChangeError):
    """This edge is there already."""

    def __init__(self, edge):
        self.edge = edge


class Held(ChangeError):
    """This edge holds the place of its single label at its source."""

    def __init__(self, edge):
        self.edge = edge


class Gone(ChangeError):
    """This edge is not there."""

    def __init__(self, edge):
        self.edge = edge


class BadText(TextError):
    """The token with this number is bad."""

    def __init__(self, at):
        self.at = at


class BadRow(TextError):
    """A row does not fit its question."""


class TooLarge(LimitError):
    """This part is too large."""

    def __init__(self, part):
        self.part = part


class TooMany(LimitError):
    """There are too many of this part."""

    def __init__(self, part):
        self.part = part


class Ahead(LimitError):
    """The copy with this number would be left behind by more than its lead."""

    def __init__(self, number):
        self.number = number


class Otherwise(DealError):
    """The step with this number would be told otherwise."""

    def __init__(self, number):
        self.number = number


class Ended(DealError):
    """The deal is ended."""


class BadPlace(DiskError):
    """No block has this number."""

    def __init__(self, at):
        self.at = at


class NoStore(DiskError):
    """No store lies on the disk."""


class CutOff(DiskError):
    """The disk was cut off."""


class Down(DiskError):
    """The house is down."""


class BadSight(SightError):
    """The single label of this name is seen, but not all nodes of its target kind."""

    def __init__(self, name):
        self.name = name


class Unseen(SightError):
    """The label or node of this name is not seen."""

    def __init__(self, name):
        self.name = name


class NoLetter(LetterError):
    """The net has no letter with this number."""

    def __init__(self, number):
        self.number = number


class Blank(LetterError):
    """The copy is blank."""
