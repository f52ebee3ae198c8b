"""The commands of a desk, and how their lines are read."""

from edgesaway.errors import BadText
from edgesaway.questions import check_question
from edgesaway.questiontexts import take_question
from edgesaway.readers import Reader

# What stands behind the first token of a line. A "deal" is the name of one that was begun, any other name is a "name";
# a "copy" is the number of one, any other number is a "number".
COMMANDS = {
    "begin": ("name",),
    "ask": ("deal", "question"),
    "look": ("deal", "question", "row"),
    "put": ("deal", "edge"),
    "take": ("deal", "edge"),
    "commit": ("deal",),
    "drop": ("deal",),
    "far": ("question", "row"),
    "told": ("number", "question", "row"),
    "keep": ("name", "question"),
    "view": ("name",),
    "forget": ("name",),
    "copy": ("copy", "question", "row"),
    "start": ("copy",),
    "send": ("copy",),
    "deliver": ("number",),
    "lose": ("number",),
    "double": ("number",),
    "checkpoint": (),
    "cut": ("number",),
    "fuse": ("number", "number"),
    "open": (),
    "cold": ("question", "row"),
}
# A question that stands alone begins with a word of its own.
FIND = "find"


def check_line(line):
    """Raise an error if a line is none of the commands, whatever its names and numbers mean; tell its word."""
    return line_read(Reader(None, line))[0]


def read_line(schema, line):
    """The word of a line, and a list of what stands behind it: pairs of a word for what it is and the thing itself."""
    return line_read(Reader(schema, line))


def line_read(reader):
    """What `read_line` tells of the line of a reader."""
    word = reader.token()
    if word == FIND:
        kinds = ("question",)
    elif word in COMMANDS:
        kinds = COMMANDS[word]
        reader.take(word)
    else:
        raise BadText(reader.at)
    things = [(kind, thing_read(reader, kind)) for kind in kinds]
    reader.finish()
    return word, things


def thing_read(reader, kind):
    """Go on by a thing of a told kind, and tell it."""
    if kind == "question":
        return question_read(reader)
    if kind == "row":
        return row_read(reader)
    if kind == "edge":
        source = reader.take_node()
        label = reader.take_label()
        return (source, label, reader.take_node())
    return reader.take_number() if kind in ("number", "copy") else reader.take_name()


def question_read(reader):
    """Go on by a QUESTION; all that is wrong with it comes ahead of what stands behind it."""
    question = take_question(reader)
    if reader.read_for is not None:
        check_question(reader.read_for, question)
    return question


def row_read(reader):
    """Go on by a ROW."""
    if not reader.skip("at"):
        return ()
    node = reader.take_node()
    if not reader.skip(","):
        return (node,)
    return (node, reader.take_node())
