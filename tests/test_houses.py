"""Houses: [39] to [56], [65] to [68]."""

import itertools
import unittest

from edgesaway.bases import Base
from edgesaway.cold import Cold
from edgesaway.copies import Copy
from edgesaway.deals import Deal
from edgesaway.disks import Disk
from edgesaway.errors import (
    Ahead, BadEdge, Blank, CutOff, Down, Ended, Firm, NoLetter, Otherwise, TooLarge, TooMany, Twice, Unknown,
)
from edgesaway.heads import Head
from edgesaway.houses import House
from edgesaway.stores import Store
from edgesaway.truths import table_of, truth_of
from edgesaway.views import Views
from tests.asking import asked, node, rows_told, unknown, way
from tests.reckon import step
from tests.stored import PLAIN, graph_told, some_changes
from tests.support import by_chance, raised, some_graph
from tests.test_bases import FULL

GRAPH = ((0, 0, 1), (0, 1, 2), (1, 3, 1))
P = asked(way(step(0), unknown(0), unknown(1)), 0, 0)
R = asked(way(step(2), node(0), unknown(0)), 0)
FAR = asked(("or", (way(("plus", ("either", step(0), step(2))), unknown(0), node(1)), way(step(3), unknown(0), node(1)))), 0)


def house_of(graph=GRAPH, pages=2, logs=3, lead=20, leads=()):
    return House(PLAIN, graph, pages=pages, logs=logs, lead=lead, leads=leads)


def committed(house, *changes):
    """Commit changes by a deal of their own."""
    deal = house.deal()
    for change in changes:
        assert (deal.put if change[0] == "put" else deal.take)(*change[1:]) == "done"
    return house.commit(deal)


def state_of(house):
    """All that can be told of a house, but for its disk and the count of steps asked anew."""
    views = [(name, house.views.table(name)) for name in house.views.names]
    copies = [(copy.life, copy.blank, copy.position, copy.graph) for copy in house.copies]
    known = [house.head.known(at) for at in range(len(copies))]
    return (house.base.graph, house.base.position, house.base.meters, house.head.graph, house.head.position, known,
            house.views.graph, views, house.views.renewed, copies, house.letters, house.down)


def disk_of(house):
    return house.disk.plates, house.disk.waiting


class Making(unittest.TestCase):
    def test_all_parts(self):
        house = house_of(leads=(5, 0))
        self.assertEqual(house.schema, PLAIN)
        self.assertEqual([type(part) for part in (house.disk, house.base, house.views, house.head)],
                         [Disk, Base, Views, Head])
        self.assertEqual([type(copy) for copy in house.copies], [Copy, Copy])
        self.assertIsInstance(house.copies, tuple)
        self.assertEqual((house.disk.size, house.disk.plates[1][:2], house.stored), (9, ("root", 1), 0))
        self.assertEqual(state_of(house), (
            GRAPH, 0, (0, 0, 0, 0), GRAPH, 0, [(0, 0), (0, 0)], GRAPH, [], 0,
            [(1, True, None, None)] * 2, (("wish", 0, 1), ("wish", 1, 1)), False,
        ))
        self.assertEqual((house_of().letters, house_of().copies), ((), ()))
        self.assertEqual(house.disk.waiting, 0)

    def test_errors_of_founding(self):
        nine = some_graph(PLAIN, by_chance(651), 9)
        self.assertEqual(raised(TooLarge, house_of, nine, 1).part, "pages")
        self.assertEqual(House(PLAIN, (), pages=12, logs=40, lead=0).disk.size, 66)


class Commits(unittest.TestCase):
    def test_everywhere(self):
        house = house_of(leads=(20,))
        house.keep("v", P)
        house.deliver(0)
        house.deliver(0)
        deal = house.deal()
        self.assertIsInstance(deal, Deal)
        deal.put(5, 0, 5)
        deal.put(4, 2, 4)
        deal.take(0, 0, 1)
        writes = house.disk.waiting
        self.assertEqual(house.commit(deal), 1)
        graph = ((0, 1, 2), (1, 3, 1), (4, 2, 4), (5, 0, 5))
        changes = (("take", 0, 0, 1), ("put", 4, 2, 4), ("put", 5, 0, 5))
        self.assertEqual([house.base.graph, house.head.graph, house.views.graph], [graph] * 3)
        self.assertEqual((house.base.position, house.head.position, house.stored, writes), (1, 1, 1, 0))
        self.assertEqual((house.base.difference_at(1), house.base.meters), (changes, (2, 0, 3, 0)))
        self.assertEqual(house.views.table("v"), ((5, 5),))
        # The difference, not the steps, was written, and synced.
        self.assertEqual((house.disk.plates[6], house.disk.waiting), (("log", 1, 1, 0, 1, changes), 0))
        self.assertEqual(house.head.next_letter(0), ("entry", 0, 1, 1, changes))
        self.assertTrue(deal.ended)

    def test_an_empty_difference(self):
        house = house_of()
        committed(house, ("put", 5, 0, 5))
        ahead, disk = state_of(house), disk_of(house)
        deal = house.deal()
        deal.ask(P)
        deal.put(4, 0, 4)
        deal.take(4, 0, 4)
        house.disk.set_fuse(0, 0)
        self.assertEqual(house.commit(deal), 1)
        self.assertEqual((state_of(house), disk_of(house), house.disk.fuse, deal.ended), (ahead, disk, 0, True))

    def check_refused(self, house, deal, kind, told, anew=0):
        ahead, disk, stored, asked_ahead = state_of(house), disk_of(house), house.stored, house.base.asked
        error = raised(kind, house.commit, deal)
        self.assertEqual([*vars(error).values()], told)
        self.assertEqual((state_of(house), disk_of(house), house.stored), (ahead, disk, stored))
        self.assertEqual(house.base.asked, asked_ahead + anew)
        self.assertTrue(deal.ended)
        raised(Ended, house.commit, deal)

    def test_ended(self):
        house = house_of()
        for how in ("commit", "drop"):
            deal = house.deal()
            deal.put(5, 0, 5 if how == "commit" else 4)
            house.commit(deal) if how == "commit" else deal.drop()
            self.check_refused(house, deal, Ended, [])

    def test_otherwise(self):
        house = house_of(lead=2)
        deal = house.deal()
        deal.look(P, (3, 3))
        deal.ask(P)
        # Too dear besides: what is told otherwise goes ahead.
        deal.put(4, 2, 4)
        committed(house, ("put", 5, 0, 5))
        self.check_refused(house, deal, Otherwise, [1], 2)

    def test_too_large_a_graph(self):
        # More than 100 edges never fit into 12 pages, so a house with so many edges cannot be.
        house = house_of(FULL[:96], pages=12, logs=40, lead=1000)
        free = [edge for edge in FULL[96:] if edge[1] != 3]
        deal = house.deal()
        deal.look(asked(way(step(0), node(0), node(0))), ())
        for edge in free[:5]:
            deal.put(*edge)
        committed(house, ("take", 1, 0, 1))
        # The graph has 100 edges, which are too many for the pages.
        self.check_refused(house, deal, TooLarge, ["pages"], 1)
        deal = house.deal()
        for edge in (*free[:5], (1, 0, 1)):
            deal.put(*edge)
        self.check_refused(house, deal, TooLarge, ["graph"])

    def test_too_large_a_commit(self):
        house = house_of(lead=5, logs=1, pages=1, leads=(0,))
        house.deliver(0)
        house.deliver(0)
        deal = house.deal()
        deal.put(4, 2, 4)
        deal.put(4, 2, 3)
        self.check_refused(house, deal, TooLarge, ["commit"])
        deal = house.deal()
        for at in range(5):
            deal.put(5, 0, at)
        self.check_refused(house, deal, TooLarge, ["commit"])

    def test_too_many_pages(self):
        house = house_of(lead=100, logs=9, pages=1, leads=(0,))
        house.deliver(0)
        house.deliver(0)
        deal = house.deal()
        for at in range(6):
            deal.put(5, 0, at)
        self.check_refused(house, deal, TooLarge, ["pages"])

    def test_ahead(self):
        house = house_of(leads=(3, 2))
        deal = house.deal()
        deal.put(4, 2, 4)
        house.deliver(0)
        house.deliver(0)
        self.assertEqual(house.head.known(1), (1, 0))
        self.check_refused(house, deal, Ahead, [1])
        committed(house, ("put", 5, 1, 5))
        deal = house.deal()
        deal.put(5, 0, 4)
        self.check_refused(house, deal, Ahead, [1])
        house.send(1)
        for _ in range(6):
            house.deliver(0)
        self.assertEqual(house.head.known(1), (1, 1))
        self.assertEqual(committed(house, ("put", 5, 0, 4)), 2)

    def test_checkpoints(self):
        house = house_of(lead=3)
        for at in range(5):
            committed(house, ("put", 4, 0, at))
        self.assertEqual((house.stored, max(block for block in house.disk.plates[:2])[1]), (5, 2))
        self.assertIsNone(house.checkpoint())
        root = max(block for block in house.disk.plates[:2])
        self.assertEqual((root[1], root[6], house.disk.waiting), (3, 5, 0))

    def test_deals(self):
        house = house_of()
        deals = [house.deal() for _ in range(12)]
        self.assertEqual(raised(TooMany, house.deal).part, "deals")
        with deals[0] as deal:
            deal.put(5, 0, 5)
            self.assertEqual(house.commit(deal), 1)
        self.assertEqual(house.base.open_deals, 11)
        raised(BadEdge, deals[1].put, 9, 9, 9)
        raised(Firm, deals[1].put, 1, 3, 1)


class ViewsOfAHouse(unittest.TestCase):
    def test_kept_and_forgotten(self):
        house = house_of()
        self.assertIsNone(house.keep("a", P))
        self.assertEqual(raised(Twice, house.keep, "a", R).name, "a")
        self.assertEqual(raised(Unknown, house.forget, "b").name, "b")
        for at in range(11):
            house.keep(f"v{at}", R)
        self.assertEqual(raised(TooMany, house.keep, "x", P).part, "views")
        self.assertIsNone(house.forget("v3"))
        self.assertEqual(len(house.views.names), 11)
        committed(house, ("put", 0, 2, 2))
        self.assertEqual((house.views.table("v4"), house.views.truth("v4", (2,))), (((2,),), "yes"))
        self.assertEqual(house.views.renewed, 60)


class Letters(unittest.TestCase):
    def test_the_net(self):
        house = house_of(leads=(20, 20))
        self.assertEqual(house.letters, (("wish", 0, 1), ("wish", 1, 1)))
        self.assertIsNone(house.deliver(1))
        self.assertEqual(house.letters, (("wish", 0, 1), ("whole", 1, 1, 0, GRAPH)))
        self.assertIsNone(house.double(0))
        self.assertEqual(house.letters, (("wish", 0, 1), ("whole", 1, 1, 0, GRAPH), ("wish", 0, 1)))
        self.assertIsNone(house.lose(0))
        house.deliver(0)
        self.assertEqual(house.letters, (("wish", 0, 1), ("ack", 1, 1, 0)))
        house.deliver(1)
        self.assertEqual(house.letters, (("wish", 0, 1),))
        committed(house, ("put", 5, 0, 5))
        self.assertIs(house.send(1), True)
        self.assertIs(house.send(0), False)
        self.assertEqual(house.letters[1:], (("entry", 1, 1, 1, (("put", 5, 0, 5),)),))
        house.deliver(1)
        house.deliver(1)
        self.assertEqual((house.copies[1].graph, house.head.known(1)), (house.base.graph, (1, 1)))
        self.assertIs(house.send(1), False)
        self.assertIsNone(house.begin(1))
        self.assertEqual((house.letters[-1], house.copies[1].blank), (("wish", 1, 2), True))

    def test_no_letter(self):
        house = house_of(leads=(1,))
        ahead = state_of(house)
        for call in (house.deliver, house.lose, house.double):
            for number in (1, -1, 100):
                self.assertEqual(raised(NoLetter, call, number).number, number)
        self.assertEqual(state_of(house), ahead)
        house.lose(0)
        self.assertEqual(raised(NoLetter, house.deliver, 0).number, 0)

    def test_copies_told(self):
        house = house_of(leads=(2,))
        raised(Blank, house.copies[0].told, R, (1,))
        house.deliver(0)
        house.deliver(0)
        committed(house, ("put", 5, 0, 5))
        committed(house, ("put", 5, 0, 4))
        self.assertEqual(house.copies[0].told(R, (1,)), "no")
        self.assertEqual(house.copies[0].told(P, (5, 5)), "open")


class Downs(unittest.TestCase):
    def down_house(self):
        house = house_of(leads=(9,))
        house.keep("v", R)
        deal = house.deal()
        committed(house, ("put", 5, 0, 5))
        self.assertIsNone(house.cut(0))
        return house, deal

    def check_down(self, house, deal):
        self.assertIs(house.down, True)
        ahead, disk = state_of(house), disk_of(house)
        for call, *things in (
            (house.deal,), (house.commit, deal), (house.keep, "v", R), (house.keep, "w", R), (house.forget, "v"),
            (house.forget, "x"), (house.checkpoint,), (house.begin, 0), (house.send, 0), (house.deliver, 0),
            (house.deliver, 99), (house.lose, 0), (house.lose, -1), (house.double, 0), (house.double, 99), (house.cut, 1),
        ):
            raised(Down, call, *things)
        self.assertEqual((state_of(house), disk_of(house)), (ahead, disk))

    def test_each_method(self):
        house, deal = self.down_house()
        self.check_down(house, deal)
        # An ended deal is no matter either.
        deal.drop()
        raised(Down, house.commit, deal)

    def test_what_is_still_asked(self):
        house, deal = self.down_house()
        self.assertEqual((deal.ask(P), deal.ended, deal.put(3, 0, 3)), (((0, 1),), False, "done"))
        self.assertEqual((house.views.table("v"), house.base.position, len(house.letters)), ((), 1, 1))
        self.assertEqual(house.schema, PLAIN)
        self.assertIsInstance(house.cold(), Cold)
        self.assertEqual(house.cold().told(asked(way(step(3), node(1), node(1))), ()), "yes")
        house.disk.set_fuse(0, 0)
        self.assertEqual(house.disk.fuse, 0)
        deal.drop()
        self.assertTrue(deal.ended)

    def test_a_cut_takes_what_waits(self):
        """All that a house has done was synced, so there is nothing that a cut could lose."""
        for mask in (0, 1, 2, 1023):
            house = house_of()
            committed(house, ("put", 5, 0, 5))
            house.cut(mask)
            house.reopen()
            self.assertEqual((house.base.graph, house.stored), ((*GRAPH, (5, 0, 5)), 1))

    def test_the_mask_of_a_cut(self):
        for mask, told in ((0, None), (1, ("log",)), (2, None)):
            house = house_of()
            house.disk.write(8, ("log",))
            house.cut(mask)
            self.assertEqual((house.disk.plates[8], house.disk.waiting), (told, 0))

    def test_by_fuse(self):
        """Within a commit, with and without a checkpoint, and within a checkpoint: at each write and each sync."""
        commits = 0
        for many, mask in itertools.product(range(12), (0, 1, 2, 3, 5, 1023)):
            for deed in ("commit", "dear", "checkpoint"):
                house = house_of(lead=9, leads=(9,))
                house.keep("v", P)
                committed(house, ("put", 5, 0, 5), ("put", 5, 2, 5))
                other = house.deal()
                deal = house.deal()
                deal.look(P, (3, 3))
                changes = [("put", 4, 0, at) for at in range(5)]
                for change in changes[:5 if deed == "dear" else 2]:
                    deal.put(*change[1:])
                if deed == "dear":
                    deal.take(5, 2, 5)
                steps, seen = deal.steps, deal.graph
                base, ahead, plates = house.base, state_of(house), house.disk.plates
                house.disk.set_fuse(many, mask)
                try:
                    house.checkpoint() if deed == "checkpoint" else house.commit(deal)
                except CutOff:
                    pass
                else:
                    continue
                commits += 1
                self.assertEqual(state_of(house), (*ahead[:-1], True))
                self.assertEqual((deal.ended, other.ended), (deed != "checkpoint", False))
                self.assertEqual((deal.steps, deal.graph), (steps, seen))
                self.assertEqual(house.base, base)
                self.check_down(house, other)
                self.assertTrue(house.disk.fuse is None and house.disk.plates[1] == plates[1])
                cold = house.cold().told_rows(FAR)
                house.disk.set_fuse(1000, 0)
                self.assertIsNone(house.reopen())
                graph = house.base.graph
                self.assertIn(graph, (ahead[0], seen) if deed != "checkpoint" else (ahead[0],))
                self.assertEqual(house.stored, 1 + (graph == seen and deed != "checkpoint"))
                for row, word in cold:
                    self.assertIn(word, ("open", truth_of(PLAIN, graph, FAR, row)))
                self.assertTrue(deal.ended and other.ended)
        self.assertGreater(commits, 60)

    def test_the_count_of_a_commit_that_is_cut_off(self):
        house = house_of()
        deal = house.deal()
        deal.look(P, (3, 3))
        deal.put(4, 0, 4)
        committed(house, ("put", 5, 0, 5))
        house.disk.set_fuse(0, 0)
        raised(CutOff, house.commit, deal)
        self.assertEqual((house.base.asked, deal.ended, house.base.position), (1, True, 1))


class Reopening(unittest.TestCase):
    def prepared(self):
        house = house_of(leads=(9, 9))
        house.keep("b", R)
        house.keep("a", P)
        house.deliver(0)
        house.deliver(0)
        house.deliver(1)
        deal = house.deal()
        deal.look(P, (3, 3))
        deal.put(4, 0, 4)
        committed(house, ("put", 5, 0, 5))
        house.send(1)
        house.commit(deal)
        return house

    def check_anew(self, house, graph, stored, ahead):
        """What [67] tells of a house behind a reopening; ahead is what it was like before."""
        self.assertEqual(state_of(house), (
            graph, 0, (0, 0, 0, 0), graph, 0, [(0, 0)] * 2, graph,
            [("a", table_of(PLAIN, graph, P)), ("b", table_of(PLAIN, graph, R))], 0,
            [(life + 1, True, None, None) for life, *_ in ahead[9]],
            (*ahead[10], *[("wish", at, ahead[9][at][0] + 1) for at in range(2)]), False,
        ))
        self.assertEqual((house.stored, house.base.asked, house.base.open_deals), (stored, 0, 0))

    def test_behind_a_cut(self):
        house = self.prepared()
        self.assertEqual((house.base.asked, house.views.renewed > 0, len(house.letters)), (1, True, 3))
        deal = house.deal()
        deal.put(3, 0, 3)
        ahead = state_of(house)
        old, copies = house.base, house.copies
        house.cut(0)
        house.reopen()
        self.check_anew(house, ahead[0], 2, ahead)
        self.assertEqual(house.copies, copies)
        self.assertNotEqual(house.base, old)
        self.assertEqual((deal.ended, deal.steps, deal.graph), (True, 1, graph_told(ahead[0], [("put", 3, 0, 3)])))
        raised(Ended, house.commit, deal)
        raised(Ended, deal.ask, P)
        # It goes on.
        self.assertEqual(committed(house, ("put", 2, 0, 2)), 1)
        self.assertEqual((house.stored, house.base.graph_at(0)), (3, ahead[0]))

    def test_without_a_cut(self):
        house = self.prepared()
        deals = [house.deal() for _ in range(12)]
        ahead = state_of(house)
        newest = max(block for block in house.disk.plates[:2] if block)[1]
        self.assertIsNone(house.reopen())
        self.check_anew(house, ahead[0], 2, ahead)
        self.assertEqual(max(block for block in house.disk.plates[:2] if block)[1], newest + 1)
        self.assertTrue(all(deal.ended for deal in deals))
        self.assertEqual(len([house.deal() for _ in range(12)]), 12)

    def test_cut_off_itself(self):
        for many, mask, down in itertools.product(range(4), (0, 1, 1023), (False, True)):
            house = self.prepared()
            deal = house.deal()
            if down:
                house.cut(0)
            ahead, base = state_of(house), house.base
            house.disk.set_fuse(many, mask)
            raised(CutOff, house.reopen)
            self.assertEqual(state_of(house), (*ahead[:-1], True))
            self.assertEqual((house.base, deal.ended), (base, False))
            raised(Down, house.deal)
            house.disk.set_fuse(many, mask)
            raised(CutOff, house.reopen)
            self.assertEqual((state_of(house), deal.ended), ((*ahead[:-1], True), False))
            house.reopen()
            self.check_anew(house, ahead[0], 2, ahead)
            self.assertTrue(deal.ended)

    def test_old_letters(self):
        house = self.prepared()
        ahead = house.letters
        self.assertEqual([letter[:3] for letter in ahead], [("whole", 0, 1), ("ack", 1, 1), ("entry", 1, 1)])
        house.cut(0)
        house.reopen()
        for _ in ahead:
            house.deliver(0)
        # Nobody has heard anything.
        self.assertEqual(house.letters, (("wish", 0, 2), ("wish", 1, 2)))
        self.assertEqual([house.head.known(at) for at in range(2)], [(0, 0)] * 2)
        self.assertTrue(all(copy.blank for copy in house.copies))
        house.deliver(0)
        house.deliver(1)
        self.assertEqual(house.copies[0].graph, house.base.graph)

    def test_an_old_wish_and_an_old_ack(self):
        """The new head takes an old life for a new one; what it holds of it is no matter once the copy's wish comes."""
        house = house_of(leads=(2,))
        house.double(0)
        house.deliver(0)
        house.deliver(1)
        for at in range(2):
            committed(house, ("put", 5, 0, at))
        house.send(0)
        house.deliver(2)
        house.lose(1)
        self.assertEqual(house.letters, (("wish", 0, 1), ("ack", 0, 1, 1)))
        house.cut(0)
        house.reopen()
        house.deliver(0)
        house.deliver(0)
        self.assertEqual((house.head.known(0), house.head.next_letter(0)), ((1, 1), None))
        self.assertEqual(house.letters, (("wish", 0, 2), ("whole", 0, 1, 0, house.base.graph)))
        house.deliver(1)
        self.assertTrue(house.copies[0].blank)
        committed(house, ("put", 4, 0, 0))
        house.deliver(0)
        self.assertEqual(house.head.known(0), (2, 1))
        house.deliver(0)
        self.assertEqual((house.copies[0].graph, house.copies[0].position), (house.base.graph, 1))


class ByChance(unittest.TestCase):
    def test_long_runs(self):
        chance = by_chance(671)
        cuts = reopened = told = refused = 0
        for _ in range(30):
            leads = tuple(chance.randrange(2, 9) for _ in range(chance.randrange(3)))
            lead = chance.randrange(4, 9)
            house = House(PLAIN, some_graph(PLAIN, chance, 6), pages=4, logs=chance.randrange(1, 5), lead=lead, leads=leads)
            graphs = [house.base.graph]
            house.keep("far", FAR)
            for _ in range(60):
                word = chance.choice(("commit",) * 6 + ("deliver",) * 4 + ("send", "double", "lose", "begin", "checkpoint",
                                                                        "fuse", "reopen", "cut"))
                try:
                    if word == "commit":
                        deal = house.deal()
                        deal.ask(FAR)
                        for change in some_changes(PLAIN, house.base.graph, chance, chance.randrange(1, 4), 9):
                            (deal.put if change[0] == "put" else deal.take)(*change[1:])
                        if deal.graph != graphs[-1]:
                            graphs.append(deal.graph)
                        try:
                            house.commit(deal)
                        except (TooLarge, Ahead):
                            graphs.pop()
                            refused += 1
                    elif word in ("deliver", "double", "lose") and house.letters:
                        getattr(house, word)(chance.randrange(len(house.letters)))
                    elif word in ("send", "begin") and leads:
                        getattr(house, word)(chance.randrange(len(leads)))
                    elif word == "fuse":
                        house.disk.set_fuse(chance.randrange(12), chance.randrange(64))
                    elif word == "cut":
                        house.cut(chance.randrange(64))
                    elif word in ("checkpoint", "reopen"):
                        getattr(house, word)()
                except CutOff:
                    cuts += 1
                cold = house.cold().told_rows(FAR)
                if house.down:
                    raised(Down, house.deal)
                    # The store that would be opened, looked at on another disk.
                    graph = Store.opened(Disk.of(house.disk.plates)).graph
                    self.assertIn(graph, graphs[-2:])
                    while house.down:
                        try:
                            house.reopen()
                        except CutOff:
                            cuts += 1
                    self.assertEqual(house.base.graph, graph)
                    graphs = graphs[:len(graphs) - graphs[::-1].index(graph)]
                    reopened += 1
                graph = house.base.graph
                self.assertEqual(graphs[-1], graph)
                self.assertEqual((house.head.graph, house.views.graph), (graph, graph))
                self.assertEqual(house.views.table("far"), table_of(PLAIN, graph, FAR))
                self.assertEqual(house.head.position, house.base.position)
                self.assertEqual(house.disk.waiting, 0)
                rows = list(cold)
                for copy in house.copies:
                    rows += [] if copy.blank else copy.told_rows(FAR)
                for row, told_word in rows:
                    told += told_word != "open"
                    self.assertIn(told_word, ("open", truth_of(PLAIN, graph, FAR, row)))
        self.assertGreater(min(cuts, reopened, told, refused), 50)
        self.assertEqual(rows_told(PLAIN, FAR), [(at,) for at in range(6)])


if __name__ == "__main__":
    unittest.main()
