"""The texts of expressions."""

from edgesaway.books import check_expression
from edgesaway.readers import Reader
from edgesaway.schemas import label_name

AGAIN_WORDS = {"*": "star", "+": "plus", "?": "maybe"}
AGAIN_SIGNS = {"star": "*", "plus": "+", "maybe": "?"}
JOINTS = {"either": "|", "then": "/"}
# How tightly an expression holds together: within a tighter place it stands in parentheses.
TIGHTNESS = {"either": 0, "then": 1, "star": 2, "plus": 2, "maybe": 2, "step": 3, "stay": 3}


def read_expression(schema, text):
    """The expression of a text."""
    whole_expression(Reader(None, text))
    expression = whole_expression(Reader(schema, text))
    check_expression(schema, expression)
    return expression


def whole_expression(reader):
    """The expression that is all of a text."""
    expression = take_expression(reader)
    reader.finish()
    return expression


def take_expression(reader):
    """Go on by an EXPRESSION, and tell it."""
    expression = take_row(reader)
    while reader.skip("|"):
        expression = ("either", expression, take_row(reader))
    return expression


def take_row(reader):
    """Go on by an EXPRESSION without an open stroke."""
    expression = take_again(reader)
    while reader.skip("/"):
        expression = ("then", expression, take_again(reader))
    return expression


def take_again(reader):
    """Go on by a BOTTOM and the signs behind it."""
    expression = take_bottom(reader)
    while reader.token() in AGAIN_WORDS:
        expression = (AGAIN_WORDS[reader.token()], expression)
        reader.take(reader.token())
    return expression


def take_bottom(reader):
    """Go on by a BOTTOM."""
    if reader.skip("stay"):
        return ("stay",)
    if reader.skip("("):
        expression = take_expression(reader)
        reader.take(")")
        return expression
    return ("step", *reader.take_letter())


def write_expression(schema, expression):
    """The text of an expression."""
    return text_within(schema, expression, 0)


def text_within(schema, expression, tightness):
    """The text of an expression in a place of a tightness."""
    word = expression[0]
    if word in JOINTS:
        text = row_text(schema, expression)
    elif word in AGAIN_SIGNS:
        text = again_text(schema, expression)
    elif word == "stay":
        text = word
    else:
        text = letter_text(schema, expression[1:])
    return f"( {text} )" if TIGHTNESS[word] < tightness else text


def row_text(schema, expression):
    """The text of a "then" or an "either", with all that its left sides put into the same row."""
    word = expression[0]
    texts = []
    while expression[0] == word:
        texts.append(text_within(schema, expression[2], TIGHTNESS[word] + 1))
        expression = expression[1]
    texts.append(text_within(schema, expression, TIGHTNESS[word]))
    texts.reverse()
    joint = f" {JOINTS[word]} "
    return joint.join(texts)


def again_text(schema, expression):
    """The text of a "star", "plus" or "maybe", with all that stand right within it."""
    texts = []
    while expression[0] in AGAIN_SIGNS:
        texts.append(AGAIN_SIGNS[expression[0]])
        expression = expression[1]
    texts.append(text_within(schema, expression, TIGHTNESS["star"]))
    texts.reverse()
    return " ".join(texts)


def letter_text(schema, letter):
    """The text of a letter."""
    label, back = letter
    name = label_name(schema, label)
    return f"<{name}" if back == 1 else name
