"""Houses: a store, a base, views and a head with copies that go on together, and a net of letters."""

from edgesaway.bases import Base
from edgesaway.cold import Cold
from edgesaway.copies import Copy
from edgesaway.disks import Disk
from edgesaway.errors import CutOff, Down, NoLetter
from edgesaway.graphs import difference
from edgesaway.heads import Head
from edgesaway.roots import places_needed
from edgesaway.stores import Store
from edgesaway.views import Views


class House:
    """A house over a graph."""

    def __init__(self, schema, graph, *, pages, logs, lead, leads=()):
        self._schema = schema
        self._leads = leads
        self._disk = Disk(places_needed(pages, logs))
        self._store = Store.founded(self._disk, schema, graph, pages=pages, logs=logs, lead=lead)
        self._base = Base(schema, graph)
        self._views = Views(schema, graph)
        self._head = Head(schema, graph, leads)
        self._copies = tuple([Copy(schema, number, far) for number, far in enumerate(leads)])
        self._letters = [copy.begin() for copy in self._copies]
        self._down = False
        # How often the house was opened again.
        self.openings = 0

    @property
    def schema(self):
        """The schema of the graph."""
        return self._schema

    @property
    def disk(self):
        """The disk of the store."""
        return self._disk

    @property
    def base(self):
        """The newest base."""
        return self._base

    @property
    def views(self):
        """The newest views."""
        return self._views

    @property
    def head(self):
        """The newest head."""
        return self._head

    @property
    def copies(self):
        """The tuple of the copies."""
        return self._copies

    @property
    def letters(self):
        """The tuple of the letters in the net."""
        return tuple(self._letters)

    @property
    def down(self):
        """Whether the house was cut off and not opened again yet."""
        return self._down

    @property
    def stored(self):
        """The position of the store."""
        return self._store.position

    def deal(self):
        """Begin a deal of the base."""
        self._check_up()
        return self._base.deal()

    def commit(self, deal):
        """Commit a deal to the store, the base, the head and the views, and tell the position of the base."""
        self._check_up()
        graph = deal.gone_through()
        changes = difference(self._base.graph, graph)
        if changes:
            # All errors come ahead of the first write.
            self._store.checked(changes)
            self._head.checked(changes)
            self._write(changes)
            self._base.advance(graph)
            self._head.commit(changes)
            self._views.commit(changes)
        return self._base.position

    def keep(self, name, question):
        """Keep a view of a question."""
        self._check_up()
        self._views.keep(name, question)

    def forget(self, name):
        """Keep a view no longer."""
        self._check_up()
        self._views.forget(name)

    def checkpoint(self):
        """Make a checkpoint of the store."""
        self._check_up()
        try:
            self._store.checkpoint()
        except CutOff:
            self._down = True
            raise

    def begin(self, number):
        """Start a copy; its wish goes into the net."""
        self._check_up()
        self._letters.append(self._copies[number].begin())

    def send(self, number):
        """Put the next letter for a copy into the net, and tell whether there was one."""
        self._check_up()
        letter = self._head.next_letter(number)
        if letter is None:
            return False
        self._letters.append(letter)
        return True

    def deliver(self, number):
        """Take a letter out of the net and let it be heard; what is answered goes into the net."""
        letter = self._letter(number)
        del self._letters[number]
        if letter[0] in ("wish", "ack"):
            answer = self._head.hear(letter)
        else:
            answer = self._copies[letter[1]].hear(letter)
        if answer is not None:
            self._letters.append(answer)

    def lose(self, number):
        """Take a letter out of the net."""
        self._check_letter(number)
        del self._letters[number]

    def double(self, number):
        """Put a letter into the net once more."""
        self._letters.append(self._letter(number))

    def cut(self, mask):
        """Cut the disk off."""
        self._check_up()
        self._disk.cut(mask)
        self._down = True

    def reopen(self):
        """Open the house again, with what its disk holds."""
        try:
            store = Store.opened(self._disk)
        except CutOff:
            self._down = True
            raise
        self._store = store
        self._base.end_deals()
        self._base = Base(self._schema, store.graph)
        self._head = Head(self._schema, store.graph, self._leads)
        views = Views(self._schema, store.graph)
        for name in self._views.names:
            views.keep(name, self._views.question_of(name))
        self._views = views
        for copy in self._copies:
            self._letters.append(copy.begin())
        self._down = False
        self.openings += 1

    def cold(self):
        """A new cold reader of the disk."""
        return Cold(self._disk)

    def _write(self, changes):
        """Write changes to the store and make them safe."""
        try:
            self._store.commit(changes)
            self._store.sync()
        except CutOff:
            self._down = True
            raise

    def _letter(self, number):
        """The letter in the net with a number."""
        self._check_letter(number)
        return self._letters[number]

    def _check_letter(self, number):
        """Raise an error if the house is down or the net has no letter with a number."""
        self._check_up()
        if not 0 <= number < len(self._letters):
            raise NoLetter(number)

    def _check_up(self):
        """Raise an error if the house is down."""
        if self._down:
            raise Down()
