"""Desks: [61] to [64], [69]."""

import unittest

from edgesaway.desks import Desk
from edgesaway.errors import TooLarge
from edgesaway.houses import House
from tests.asking import asked, node, unknown, way
from tests.reckon import step
from tests.stored import PLAIN
from tests.support import TOWN, raised

# Kind n with nodes n#0 to n#5; labels p for 1, q single for 2, r for 3, f firm.
GRAPH = ((0, 0, 1), (0, 1, 2), (1, 3, 1))
P = "find n , n : way $0 [ p ] $1"
P01 = "find : way n#0 [ p ] n#1"
R = "find n : way n#0 [ r ] $0"
F = "find n : way $0 [ f ] $0"


def desk_of(graph=GRAPH, pages=2, logs=3, lead=20, leads=(), schema=PLAIN):
    return Desk(schema, graph, pages=pages, logs=logs, lead=lead, leads=leads)


class Talk(unittest.TestCase):
    def check(self, desk, *talk):
        """Say the lines, each followed by its answer."""
        for line, answer in zip(talk[::2], talk[1::2]):
            self.assertEqual(desk.say(line), answer, line)

    def check_refused(self, desk, line, kind):
        house = desk.house
        ahead = (house.base.graph, house.base.position, house.views.names, house.letters, house.down, house.base.open_deals)
        plates = house.disk.plates
        self.assertEqual(desk.say(line), f"refused {kind}", line)
        behind = (house.base.graph, house.base.position, house.views.names, house.letters, house.down, house.base.open_deals)
        self.assertEqual((behind, house.disk.plates), (ahead, plates), line)


class Commands(Talk):
    def test_the_house(self):
        desk = desk_of(leads=(1, 2))
        self.assertIsInstance(desk.house, House)
        self.assertEqual((desk.house.schema, desk.house.base.graph, len(desk.house.copies)), (PLAIN, GRAPH, 2))
        self.assertEqual(raised(TooLarge, lambda: desk_of(tuple((0, 0, y) for y in range(6)) * 2, 1)).part, "pages")

    def test_deals(self):
        desk = desk_of()
        self.check(
            desk, "begin d", "begun", f"ask d {P}", "n#0 n#1", "put d n#2 p n#3", "done", "put d n#2 p n#3", "there",
            "put d n#0 q n#3", "held", "take d n#5 p n#5", "gone", f"ask d {P}", "n#0 n#1, n#2 n#3", P, "n#0 n#1",
            f"look d {P} at n#2 , n#3", "yes", f"look d {P} at n#3 , n#2", "no", f"look d {P01}", "yes",
            f"look d {R} at n#4", "no", "begin e", "begun", f"ask e {P01}", "yes", "commit d", "committed 1",
            P, "n#0 n#1, n#2 n#3", "commit e", "committed 1", "begin d", "begun", "take d n#2 p n#3", "done",
            "drop d", "dropped", "drop d", "dropped", P, "n#0 n#1, n#2 n#3", "begin d", "begun", "commit d", "committed 1",
        )

    def test_tables(self):
        desk = desk_of()
        self.check(
            desk, P, "n#0 n#1", P01, "yes", "find : not way n#0 [ p ] n#1", "no", R, "nothing", F, "n#1",
            "find n : way $0 [ p ? ] $0", "n#0, n#1, n#2, n#3, n#4, n#5",
            "find n, n: way $1 [<p] $0", "n#0 n#1", "find:way n#0[f]n#0 or way n#0[q]n#2", "yes",
        )
        town = desk_of((), schema=TOWN)
        self.check(town, "find a , c : way $0 [ lost ] $1", "nothing", "find b , a : way $0 [ stay ] $0 and way $1 [ wall ] $1",
                   "nothing", "find b : way $0 [ stay ] $0", "b#0, b#1")

    def test_distances(self):
        desk = desk_of()
        self.check(
            desk, f"far {P01}", "yes 1", f"far {R} at n#3", "no 3", f"far {F} at n#1", "yes never", f"far {F} at n#2", "no never",
            "far find : way n#0 [ q ] n#3", "no 4", "far find n, n : way $0 [ r ] $1 and way $1 [ p ] $0 at n#2, n#3", "no 4",
            f"told 0 {P01}", "yes", f"told 1 {P01}", "open", f"told 2 {R} at n#3", "no", f"told 3 {R} at n#3", "open",
            f"told 1000 {F} at n#1", "yes", f"told 1000 {F} at n#2", "no",
        )

    def test_views(self):
        desk = desk_of()
        self.check(
            desk, f"keep v {P}", "kept", f"keep w {R}", "kept", f"keep yes {P01}", "kept", "view v", "n#0 n#1",
            "view w", "nothing", "view yes", "yes", "begin d", "begun", "take d n#0 p n#1", "done", "put d n#0 r n#5", "done",
            "put d n#0 r n#4", "done", "commit d", "committed 1", "view v", "nothing", "view w", "n#4, n#5",
            "view yes", "no", "forget v", "forgotten", "view v", "refused Unknown", f"keep v {F}", "kept", "view v", "n#1",
        )
        self.assertEqual(desk.house.views.names, ("v", "w", "yes"))

    def test_copies_and_letters(self):
        desk = desk_of(leads=(2, 9))
        self.check(
            desk, f"copy 0 {P01}", "refused Blank", "deliver 0", "delivered", "deliver 1", "delivered", "lose 0", "lost",
            f"copy 0 {R} at n#3", "no", f"copy 0 {P01}", "open", f"copy 1 {P01}", "refused Blank", "start 1", "started",
        )
        self.assertEqual(desk.house.letters, (("ack", 0, 1, 0), ("wish", 1, 2)))
        self.check(
            desk, "send 0", "nothing", "send 1", "nothing", "begin d", "begun", "put d n#5 p n#5", "done",
            "commit d", "committed 1", "send 0", "sent", "double 2", "doubled", "deliver 2", "delivered", "deliver 9",
            "refused NoLetter", f"copy 0 {P} at n#5, n#5", "open",
        )
        self.assertEqual([letter[0] for letter in desk.house.letters], ["ack", "wish", "entry", "ack"])
        self.assertEqual(desk.house.copies[0].position, 1)

    def test_cuts_and_openings(self):
        desk = desk_of(lead=2)
        self.check(
            desk, "checkpoint", "made", "begin d", "begun", "put d n#5 p n#5", "done", "commit d", "committed 1",
            "cut 0", "cut", P, "refused Down", f"cold {R} at n#3", "no", f"cold {P} at n#5, n#5", "open",
            "fuse 0 0", "set", "open", "refused CutOff", "open", "opened 1", P, "n#0 n#1, n#5 n#5",
            f"cold {F} at n#1", "yes", f"cold {P01}", "open", "open", "opened 1", "begin d", "begun",
            "put d n#4 p n#4", "done", "fuse 0 0", "set", "commit d", "refused CutOff", "checkpoint", "refused Down",
            "open", "opened 1", "fuse 3 9999", "set", "checkpoint", "refused CutOff", "open", "opened 1",
            "fuse 1 1", "set", "begin d", "begun", "put d n#4 p n#4", "done", "commit d", "refused CutOff", "open", "opened 2",
        )
        self.assertFalse(desk.house.down)

    def test_words_of_commands_as_names(self):
        schema = ("schema", (("put", 2), ("find1", 1)), (("ask", 0, 0, 1, "many"), ("open", 0, 1, 2, "single")))
        desk = desk_of(schema=schema, graph=((0, 0, 1),))
        self.check(
            desk, "begin begin", "begun", "put begin put#0 ask put#0", "done", "put begin put#1 open find1#0", "done",
            "ask begin find put , put : way $0 [ask] $1", "put#0 put#0, put#0 put#1", "commit begin", "committed 1",
            "keep view find put : way put#0 [ ask ] $0", "kept", "view view", "put#0, put#1", "forget view", "forgotten",
            "begin drop", "begun", "drop drop", "dropped", "begin fuse", "begun", "take fuse put#0 ask put#0", "done",
            "look fuse find put , put : way $0 [ ask ] $1 at put#0 , put#0", "no",
            # This word has more than 8 characters.
            "begin checkpoint", "refused BadText", "begin at", "refused BadText", "begin find", "refused BadText",
        )

    def test_gaps(self):
        desk = desk_of()
        self.check(
            desk, "  begin\n d\n", "begun", "put d n#1p n#1", "refused BadText", "put d n #1 p\nn# 1", "done",
            f"look d\n{P}at n#1,n#1", "refused BadText", f"look d\n{P} at n#1,n#1", "yes", "fuse 10 1", "set", "commit d ;", "refused BadText", "commit d", "committed 1",
        )


class Errors(Talk):
    def test_bad_texts(self):
        desk = desk_of(leads=(1,))
        desk.say("begin d")
        desk.say(f"keep v {P}")
        for line in (
            "", " \n ", "hello", "Begin d", "begin", "begin d e", "begin 1", "begin kind", "begin abcdefghi", "ask d", "ask d find",
            f"ask {P}", f"ask d {P} at n#0", "look d", f"look d {P} at", f"look d {P} at n#0 ,", f"look d {P} at n#0, n#0, n#0",
            f"look d {P} n#0", "put d n#0 p", "put d n#0 p n#0 ;", "put d n p n", "put d n#0 <p n#0", "put n#0 p n#0", "take d",
            "commit", "commit d d", "drop", f"{P} at n#0", "find n : way $0 [ p ]", "find n , n , n : way $0 [ p ] $0", "far",
            f"far {P} at n#0 n#0", f"told {P01}", f"told 00 {P01}", f"told 12345 {P01}", f"told -1 {P01}", f"keep {P}", "keep v",
            f"keep v {P} at n#0", "view", "view v v", "forget", "forget $", f"copy {P01}", "copy 0", "start", "start d", "send",
            "deliver", "deliver 01", "lose", "double x", "checkpoint 1", "cut", "cut 1 1", "fuse", "fuse 1", "fuse 1 2 3",
            "open 1", "open d", "cold", f"cold 1 {P01}", "at n#0", "edge n#0 p n#0 ;", "not", "find : way n#0 [ p ] n#1 ;",
        ):
            self.check_refused(desk, line, "BadText")

    def test_down(self):
        desk = desk_of(leads=(1,))
        self.check(desk, "begin d", "begun", f"keep v {P}", "kept", "cut 0", "cut")
        for line in (
            "begin d", "begin e", f"ask d {P}", f"look d {P} at n#0", "put d n#9 p n#9", "take x n#0 p n#1", "commit d", "drop d",
            P, "find x : way $0 [ p ] $0", f"far {P01}", f"told 2000 {P01}", f"keep v {P}", "view v", "view x", "forget v",
            f"copy 0 {P01}", "copy 7 find : way n#0 [ x ] n#0", "start 0", "start 7", "send 0", "deliver 0", "deliver 7", "lose 0",
            "double 0", "checkpoint", "cut 0",
        ):
            self.check_refused(desk, line, "Down")
            self.check_refused(desk, f"{line} ;", "BadText")
        self.check_refused(desk, "cold find x : way $0 [ p ] $0", "Unknown")
        self.check_refused(desk, f"cold {P} at n#0", "BadRow")

    def test_reading(self):
        desk = desk_of(leads=(1,))
        desk.say("begin d")
        for line, kind in (
            ("find m : way $0 [ p ] $0", "Unknown"), ("find n : way $1 [ p ] $0", "BadNumber"),
            ("find : way n#6 [ p ] n#0", "BadNumber"), ("find : way n#0 [ p | p ] n#0", "Twice"),
            ("find : " + " and ".join(["way n#0 [ stay ] n#0"] * 9), "TooLarge"),
            ("find : way n#0 [ p / q / r / f / p / q / r / f / p ] n#0", "TooLarge"),
            ("put d m#0 p n#0", "Unknown"), ("put d n#0 x n#0", "Unknown"), ("take d n#0 p n#6", "BadNumber"),
            (f"look d {R} at m#0", "Unknown"), (f"far {R} at n#6", "BadNumber"),
            # A question with all that is wrong with it goes ahead of what stands behind it.
            ("look d find : way n#0 [ p | p ] n#0 at n#9", "Twice"), ("far find : way n#0 [ p | p ] n#0 at m#0", "Twice"),
            ("told 2000 find m : way $0 [ p ] $0 at n#9", "Unknown"), ("look d find n : way $3 [ x ] $0 at n#0", "BadNumber"),
            ("look d find n : way $0 [ x ] $3 at n#0", "Unknown"), ("put d n#9 x n#0", "BadNumber"), ("put d n#0 x n#9", "Unknown"),
        ):
            self.check_refused(desk, line, kind)
        town = desk_of((), schema=TOWN)
        self.check_refused(town, "find a : way $0 [ <red ] $0", "BadRule")
        town.say("begin d")
        # An edge that is not let belongs to the deed.
        self.check_refused(town, "put d b#0 road a#0", "BadEdge")
        self.check_refused(town, "put x b#0 road a#0", "Unknown")
        self.check_refused(town, "put d a#0 red a#1", "BadEdge")
        self.check_refused(town, "take d a#0 wall a#1", "Firm")

    def test_unknown_names(self):
        desk = desk_of()
        for line in (
            f"ask d {P}", f"look d {P} at n#0, n#0", "put d n#0 p n#0", "take d n#0 p n#1", "commit d", "drop d", "view v",
            "forget v",
        ):
            self.check_refused(desk, line, "Unknown")
        desk.say("begin d")
        # An ended deal is known, a deal of another opening is not.
        desk.say("drop d")
        for line in (f"ask d {P}", f"look d {P} at n#0, n#0", "put d n#0 p n#0", "take d n#0 p n#1", "commit d", "put d n#0 f n#0"):
            self.check_refused(desk, line, "Ended")
        self.check(desk, "drop d", "dropped", "open", "opened 0")
        for line in (f"ask d {P}", "commit d", "drop d"):
            self.check_refused(desk, line, "Unknown")
        self.check(desk, "begin d", "begun")
        desk.house.reopen()
        self.check_refused(desk, "drop d", "Unknown")
        self.check(desk, "begin d", "begun", f"keep v {P}", "kept", "cut 0", "cut", "open", "opened 0", "drop d", "refused Unknown",
                   "view v", "n#0 n#1")

    def test_orders_of_two(self):
        desk = desk_of(leads=(1,))
        self.check(desk, "begin d", "begun", "begin e", "begun", "drop e", "dropped")
        for line, kind in (
            # Reading, then names, then copies, then rows, then the deed.
            (f"look x {R} at n#9", "BadNumber"), (f"look x {R}", "Unknown"), (f"look x {R} at n#0, n#0", "Unknown"),
            (f"look e {R}", "BadRow"), (f"look e {R} at n#0", "Ended"), (f"look d {R}", "BadRow"), (f"look d {P01} at n#0", "BadRow"),
            (f"look d {P} at n#0", "BadRow"), (f"copy 1 {R} at n#9", "BadNumber"), (f"copy 1 {R} at m#0", "Unknown"),
            (f"copy 1 {R}", "BadNumber"), (f"copy 0 {R}", "BadRow"), (f"copy 0 {R} at n#0", "Blank"),
            (f"far {R}", "BadRow"), (f"told 1001 {R}", "BadRow"), (f"told 1001 {R} at n#0", "BadNumber"),
            (f"told 9999 {R} at m#0", "Unknown"), (f"cold {R}", "BadRow"), (f"cold {P01} at n#0", "BadRow"),
            ("start 1", "BadNumber"), ("send 1", "BadNumber"), ("start 9999", "BadNumber"), ("deliver 1", "NoLetter"),
            ("lose 1", "NoLetter"), ("double 9999", "NoLetter"), ("put e n#0 f n#0", "Ended"), ("put d n#0 f n#0", "Firm"),
            ("begin d", "Twice"),
        ):
            self.check_refused(desk, line, kind)

    def test_kinds_of_rows(self):
        desk = desk_of((), schema=TOWN)
        question = "find a , b : way $0 [ over ] $1"
        self.check(desk, f"far {question} at a#0 , b#1", "no 3", f"far {question} at b#1 , a#0", "refused BadRow",
                   f"far {question} at a#0 , a#1", "refused BadRow", f"far {question} at b#0", "refused BadRow")

    def test_deals_and_views(self):
        desk = desk_of()
        for at in range(12):
            self.check(desk, f"begin d{at}", "begun", f"keep v{at} {P01}", "kept")
        self.check_refused(desk, "begin d3", "Twice")
        self.check_refused(desk, "begin d12", "TooMany")
        self.check_refused(desk, f"keep v3 {P}", "Twice")
        self.check_refused(desk, f"keep v12 {P}", "TooMany")
        self.check(desk, "drop d3", "dropped", "begin d3", "begun", "begin d3", "refused Twice", "commit d4", "committed 0",
                   "begin d12", "begun", "begin d4", "refused TooMany")

    def test_commits(self):
        desk = desk_of(lead=2, logs=1, pages=1, leads=(1,))
        self.check(
            desk, "begin a", "begun", "begin b", "begun", "begin c", "begun", f"ask a {P}", "n#0 n#1", "put b n#5 r n#5", "done",
            "put c n#5 p n#5", "done", "commit c", "committed 1", "commit a", "refused Otherwise", "commit a", "refused Ended",
            "commit b", "refused TooLarge", "deliver 0", "delivered", "deliver 0", "delivered", "deliver 0", "delivered",
            "begin a", "begun", "put a n#5 q n#4", "done", "commit a", "refused Ahead", "commit a", "refused Ended",
            P, "n#0 n#1, n#5 n#5", "begin a", "begun", "take a n#5 p n#5", "done", "commit a", "committed 2",
        )

    def test_the_same_as_the_house(self):
        """What a desk tells of questions is what the house tells."""
        desk = desk_of(leads=(2,))
        desk.say("deliver 0")
        desk.say("deliver 0")
        house = desk.house
        question = asked(way(("either", step(0), step(2)), unknown(0), node(1)), 0)
        for at in range(6):
            told = [house.copies[0].told(question, (at,)), house.cold().told(question, (at,))]
            line = f"find n : way $0 [ p | r ] n#1 at n#{at}"
            self.assertEqual([desk.say(f"copy 0 {line}"), desk.say(f"cold {line}")], told)


if __name__ == "__main__":
    unittest.main()
