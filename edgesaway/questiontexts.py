"""The texts of questions."""

from edgesaway.edgetexts import node_text
from edgesaway.errors import BadNumber
from edgesaway.expressiontexts import take_expression, write_expression
from edgesaway.questions import check_question
from edgesaway.readers import Reader

# How tightly a body holds together: within a tighter place it stands in parentheses.
TIGHTNESS = {"or": 0, "and": 1, "not": 2, "way": 3}


def read_question(schema, text):
    """The question of a text."""
    whole_question(Reader(None, text))
    question = whole_question(Reader(schema, text))
    check_question(schema, question)
    return question


def whole_question(reader):
    """The question that is all of a text."""
    question = take_question(reader)
    reader.finish()
    return question


def take_question(reader):
    """Go on by a QUESTION, and tell it."""
    reader.take("find")
    unknowns = take_unknowns(reader)
    reader.take(":")
    return ("question", unknowns, take_body(reader, unknowns))


def take_unknowns(reader):
    """Go on by the kinds of the unknowns."""
    if reader.sees(":"):
        return ()
    kind = reader.take_kind()
    if reader.skip(","):
        return (kind, reader.take_kind())
    return (kind,)


def take_body(reader, unknowns):
    """Go on by a FORMULA."""
    parts = [take_all(reader, unknowns)]
    while reader.skip("or"):
        parts.append(take_all(reader, unknowns))
    return parts[0] if len(parts) == 1 else ("or", tuple(parts))


def take_all(reader, unknowns):
    """Go on by a FORMULA without an open "or"."""
    parts = [take_not(reader, unknowns)]
    while reader.skip("and"):
        parts.append(take_not(reader, unknowns))
    return parts[0] if len(parts) == 1 else ("and", tuple(parts))


def take_not(reader, unknowns):
    """Go on by a WAY or a FORMULA in parentheses, with any number of "not" in front."""
    nots = 0
    while reader.skip("not"):
        nots += 1
    if reader.skip("("):
        body = take_body(reader, unknowns)
        reader.take(")")
    else:
        body = take_way(reader, unknowns)
    for _ in range(nots):
        body = ("not", body)
    return body


def take_way(reader, unknowns):
    """Go on by a WAY."""
    reader.take("way")
    begin = take_end(reader, unknowns)
    reader.take("[")
    expression = take_expression(reader)
    reader.take("]")
    return ("way", expression, begin, take_end(reader, unknowns))


def take_end(reader, unknowns):
    """Go on by an END."""
    if not reader.skip("$"):
        return ("node", reader.take_node())
    number = reader.take_number()
    if reader.read_for is not None and number >= len(unknowns):
        raise BadNumber(number)
    return ("unknown", number)


def write_question(schema, question):
    """The text of a question."""
    names = " , ".join([schema[1][kind][0] for kind in question[1]])
    head = f"find {names} :" if names else "find :"
    return f"{head} {text_within(schema, question[2], 0)}"


def text_within(schema, body, tightness):
    """The text of a body in a place of a tightness."""
    word = body[0]
    if word == "way":
        text = way_text(schema, body)
    elif word == "not":
        text = not_text(schema, body)
    else:
        joint = f" {word} "
        text = joint.join([text_within(schema, part, TIGHTNESS[word] + 1) for part in body[1]])
    return f"( {text} )" if TIGHTNESS[word] < tightness else text


def not_text(schema, body):
    """The text of a "not", with all that stand right within it."""
    text = ""
    while body[0] == "not":
        text += "not "
        body = body[1]
    return text + text_within(schema, body, TIGHTNESS["not"])


def way_text(schema, way):
    """The text of a way."""
    _, expression, begin, end = way
    return f"way {end_text(schema, begin)} [ {write_expression(schema, expression)} ] {end_text(schema, end)}"


def end_text(schema, end):
    """The text of an end."""
    word, number = end
    return f"${number}" if word == "unknown" else node_text(schema, number)
