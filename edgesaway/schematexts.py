"""The texts of schemas."""

from edgesaway.errors import BadNumber
from edgesaway.readers import Reader, number_named
from edgesaway.schemas import RULES, check_schema


def read_schema(text):
    """The schema of a text."""
    reader = Reader(None, text)
    kinds = lines_read(reader, "kind")
    lines = lines_read(reader, "label")
    reader.finish()
    # A firm label is written with its word; its price is None here and is not looked at.
    if any([line[4] == 0 for line in lines]):
        raise BadNumber(0)
    schema = ("schema", kinds, tuple([label_of(kinds, line) for line in lines]))
    check_schema(schema)
    return schema


def lines_read(reader, word):
    """What stands in the lines that begin with a word, of which there is at least one."""
    lines = [line_read(reader, word)]
    while reader.sees(word):
        lines.append(line_read(reader, word))
    return tuple(lines)


def line_read(reader, word):
    """What stands in a line that begins with a word."""
    reader.take(word)
    line = kind_read(reader) if word == "kind" else label_read(reader)
    reader.take(";")
    return line


def kind_read(reader):
    """A kind: its name and the number of its nodes."""
    name = reader.take_name()
    return (name, reader.take_number())


def label_read(reader):
    """What stands in the line of a label: three names, the rule and the price, None for one that is firm."""
    name = reader.take_name()
    source = reader.take_name()
    target = reader.take_name()
    rule = reader.take_one_of(RULES)
    price = None if reader.skip("firm") else reader.take_number()
    return (name, source, target, rule, price)


def label_of(kinds, line):
    """The label that a line tells."""
    name, source, target, rule, price = line
    begin = number_named(kinds, source)
    end = number_named(kinds, target)
    return (name, begin, end, 0 if price is None else price, rule)


def write_schema(schema):
    """The text of a schema."""
    kinds = schema[1]
    lines = [f"kind {name} {many} ;\n" for name, many in kinds]
    for name, source, target, price, rule in schema[2]:
        told = "firm" if price == 0 else str(price)
        lines.append(f"label {name} {kinds[source][0]} {kinds[target][0]} {rule} {told} ;\n")
    return "".join(lines)
