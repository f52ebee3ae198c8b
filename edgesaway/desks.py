"""Desks: a house that takes commands as lines of text."""

from edgesaway.answers import far_rows
from edgesaway.commands import check_line, read_line
from edgesaway.edgetexts import node_text
from edgesaway.errors import AwayError, BadNumber, BadRow, Down, Twice, Unknown
from edgesaway.houses import House
from edgesaway.lags import told_word
from edgesaway.questions import is_row
from edgesaway.truths import table_of

MOST_LAG = 1000
# The commands that are let while the house is down.
DOWN_WORDS = ("fuse", "open", "cold")


def table_text(schema, question, table):
    """The text of a table."""
    if not question[1]:
        return "yes" if table else "no"
    rows = [" ".join([node_text(schema, node) for node in row]) for row in table]
    return ", ".join(rows) if rows else "nothing"


def begin_deal(desk, name):
    """Open a deal under a name."""
    deal = desk.deal_named(name)
    if deal is not None and not deal.ended:
        raise Twice(name)
    desk.name_deal(name, desk.house.deal())
    return "begun"


def ask_deal(desk, name, question):
    """The table that a deal tells."""
    return table_text(desk.house.schema, question, desk.deal_named(name).ask(question))


def look_deal(desk, name, question, row):
    """The truth that a deal tells."""
    return desk.deal_named(name).look(question, row)


def put_deal(desk, name, edge):
    """What becomes of a put."""
    source, label, target = edge
    return desk.deal_named(name).put(source, label, target)


def take_deal(desk, name, edge):
    """What becomes of a take."""
    source, label, target = edge
    return desk.deal_named(name).take(source, label, target)


def commit_deal(desk, name):
    """Commit a deal."""
    position = desk.house.commit(desk.deal_named(name))
    return f"committed {position}"


def drop_deal(desk, name):
    """Drop a deal."""
    desk.deal_named(name).drop()
    return "dropped"


def find_table(desk, question):
    """The table of a question in the graph of the base."""
    schema = desk.house.schema
    return table_text(schema, question, table_of(schema, desk.house.base.graph, question))


def tell_far(desk, question, row):
    """The truth and the distance of a row in the graph of the base."""
    truth, price = far_rows(desk.house.schema, desk.house.base.graph, question, [row])[0]
    far = "never" if price is None else str(price)
    return f"{truth} {far}"


def tell_lagging(desk, lag, question, row):
    """The word of a row with a lag in the graph of the base."""
    if lag > MOST_LAG:
        raise BadNumber(lag)
    return told_word(desk.house.schema, desk.house.base.graph, question, row, lag)


def keep_view(desk, name, question):
    """Keep a view."""
    desk.house.keep(name, question)
    return "kept"


def tell_view(desk, name):
    """The table of a view."""
    views = desk.house.views
    return table_text(desk.house.schema, views.question_of(name), views.table(name))


def forget_view(desk, name):
    """Keep a view no longer."""
    desk.house.forget(name)
    return "forgotten"


def tell_copy(desk, number, question, row):
    """The word that a copy tells."""
    return desk.house.copies[number].told(question, row)


def start_copy(desk, number):
    """Start a copy."""
    desk.house.begin(number)
    return "started"


def send_letter(desk, number):
    """Send the next letter for a copy."""
    return "sent" if desk.house.send(number) else "nothing"


def deliver_letter(desk, number):
    """Deliver a letter."""
    desk.house.deliver(number)
    return "delivered"


def lose_letter(desk, number):
    """Lose a letter."""
    desk.house.lose(number)
    return "lost"


def double_letter(desk, number):
    """Double a letter."""
    desk.house.double(number)
    return "doubled"


def make_checkpoint(desk):
    """Make a checkpoint."""
    desk.house.checkpoint()
    return "made"


def cut_house(desk, mask):
    """Cut the house off."""
    desk.house.cut(mask)
    return "cut"


def set_house_fuse(desk, many, mask):
    """Set a fuse."""
    desk.house.disk.set_fuse(many, mask)
    return "set"


def open_house(desk):
    """Open the house again."""
    desk.house.reopen()
    return f"opened {desk.house.stored}"


def tell_cold(desk, question, row):
    """The word of a new cold reader."""
    return desk.house.cold().told(question, row)


DEEDS = {
    "begin": begin_deal,
    "ask": ask_deal,
    "look": look_deal,
    "put": put_deal,
    "take": take_deal,
    "commit": commit_deal,
    "drop": drop_deal,
    "find": find_table,
    "far": tell_far,
    "told": tell_lagging,
    "keep": keep_view,
    "view": tell_view,
    "forget": forget_view,
    "copy": tell_copy,
    "start": start_copy,
    "send": send_letter,
    "deliver": deliver_letter,
    "lose": lose_letter,
    "double": double_letter,
    "checkpoint": make_checkpoint,
    "cut": cut_house,
    "fuse": set_house_fuse,
    "open": open_house,
    "cold": tell_cold,
}


class Desk:
    """A desk with a house."""

    def __init__(self, schema, graph, *, pages, logs, lead, leads=()):
        self._house = House(schema, graph, pages=pages, logs=logs, lead=lead, leads=leads)
        # The deals by how often the house was opened again when they were begun, and by their names.
        self._deals = {}

    @property
    def house(self):
        """The house."""
        return self._house

    def say(self, line):
        """The answer to a line."""
        try:
            return self._answer(line)
        except AwayError as error:
            name = error.__class__.__name__
            return f"refused {name}"

    def deal_named(self, name):
        """The deal that was begun under a name last; None if none was since the house was made or opened last."""
        return self._deals.get((self._house.openings, name))

    def name_deal(self, name, deal):
        """Let a deal have a name."""
        self._deals[(self._house.openings, name)] = deal

    def _answer(self, line):
        """The answer to a line; raises what refuses it."""
        word = check_line(line)
        if self._house.down and word not in DOWN_WORDS:
            raise Down()
        things = read_line(self._house.schema, line)[1]
        self._check_things(things)
        deed = DEEDS[word]
        told = [thing for _, thing in things]
        return deed(self, *told)

    def _check_things(self, things):
        """Raise an error for the first thing of a line that is not there, or is no row of the question ahead of it."""
        question = None
        for kind, thing in things:
            if kind == "question":
                question = thing
            elif kind == "deal" and self.deal_named(thing) is None:
                raise Unknown(thing)
            elif kind == "copy" and thing >= len(self._house.copies):
                raise BadNumber(thing)
            elif kind == "row" and not is_row(self._house.schema, question, thing):
                raise BadRow()
