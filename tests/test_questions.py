"""Questions, their ways and their rows: [25], [26]; their texts: [61] to [64]."""

import inspect
import unittest

from edgesaway.errors import BadNumber, BadRule, BadText, TooLarge, Twice, Unknown
from edgesaway.questions import check_question, is_row, row_ends, rows_of, ways_of
from edgesaway.questiontexts import read_question, write_question
from tests.support import PAIR, TOWN, by_chance, raised, some_expression
from tests.test_expressiontexts import bracketed, without_a_pair

WIDE = ("schema", (("n", 2),), tuple((f"l{n}", 0, 0, 1, "many") for n in range(12)))
HERE = ("node", 0)


def way(*labels, begin=HERE, end=HERE):
    expression = ("stay",)
    for label in labels:
        expression = ("then", expression, ("step", label, 0))
    return ("way", expression, begin, end)


def asked(body, *kinds):
    return ("question", kinds, body)


class CheckQuestion(unittest.TestCase):
    def test_right_ones(self):
        self.assertIsNone(check_question(WIDE, asked(("and", tuple(way(n) for n in range(8))))))
        self.assertIsNone(check_question(WIDE, asked(("or", (way(*range(8)), way(8, 9, 10, 11))), 0)))
        self.assertIsNone(check_question(WIDE, asked(("not", ("and", (("or", (way(),)),))))))

    def test_too_many_ways(self):
        nine = tuple(way() for _ in range(5))
        body = ("or", (("and", nine), ("not", ("or", nine[:4]))))
        self.assertEqual(raised(TooLarge, check_question, WIDE, asked(body)).part, "question")

    def test_too_many_steps(self):
        body = ("or", (way(9), ("not", way(*range(9)))))
        self.assertEqual(raised(TooLarge, check_question, WIDE, asked(body)).part, "expression")

    def test_twice(self):
        self.assertEqual(raised(Twice, check_question, WIDE, asked(way(1, 2, 2, 1))).name, "l2")
        body = ("and", (way(3, 4), ("or", (way(5), ("not", way(6, 4))), ), way(3)))
        self.assertEqual(raised(Twice, check_question, WIDE, asked(body)).name, "l4")

    def test_which_comes_first(self):
        long = way(*[0] * 9)
        body = ("or", tuple([way(0), way(0), long] + [way()] * 5))
        self.assertEqual(raised(TooLarge, check_question, WIDE, asked(body)).part, "expression")
        self.assertEqual(raised(TooLarge, check_question, WIDE, asked(("and", (body, way())))).part, "question")
        body = ("or", (way(0, 0), long))
        self.assertEqual(raised(TooLarge, check_question, WIDE, asked(body)).part, "expression")


class Rows(unittest.TestCase):
    def test_generator(self):
        self.assertTrue(inspect.isgeneratorfunction(rows_of))
        rows = rows_of(TOWN, asked(way(), 0, 1))
        self.assertTrue(inspect.isgenerator(rows))
        self.assertEqual(next(rows), (0, 3))
        self.assertEqual(next(rows), (0, 4))

    def test_rows(self):
        told = [
            ((), [()]),
            ((0,), [(0,), (1,), (2,)]),
            ((1,), [(3,), (4,)]),
            ((2,), []),
            ((1, 0), [(3, 0), (3, 1), (3, 2), (4, 0), (4, 1), (4, 2)]),
            ((1, 1), [(3, 3), (3, 4), (4, 3), (4, 4)]),
            ((2, 0), []),
            ((0, 2), []),
            ((2, 2), []),
        ]
        for kinds, rows in told:
            self.assertEqual(list(rows_of(TOWN, asked(way(), *kinds))), rows)

    def test_ways_and_ends(self):
        one = way(0, begin=("unknown", 0), end=("unknown", 1))
        two = way(1, begin=("unknown", 1), end=("node", 2))
        three = way(4, begin=("node", 1), end=("node", 1))
        body = ("and", (("not", one), ("or", (("not", ("not", two)), three))))
        self.assertEqual(ways_of(asked(body, 0, 1)), (one, two, three))
        self.assertEqual(row_ends(asked(body, 0, 1), (2, 4)), ((2, 4), (4, 2), (1, 1)))
        self.assertEqual(row_ends(asked(three), ()), ((1, 1),))
        self.assertEqual(ways_of(asked(("or", (three, one, two)), 0, 1)), (three, one, two))

    def test_is_row(self):
        for kinds in ((), (0,), (1,), (2,), (0, 1), (1, 1), (0, 2)):
            question = asked(way(), *kinds)
            rows = list(rows_of(TOWN, question))
            numbers = range(-2, 7)
            tried = [()] + [(v,) for v in numbers] + [(v, w) for v in numbers for w in numbers]
            tried += [(0, 3, 0), (3, 3, 3), (0,) * 5, (1000000,), (-1000000, 3)]
            for row in tried:
                self.assertIs(is_row(TOWN, question, row), row in rows, (kinds, row))


class Write(unittest.TestCase):
    def text(self, body, *kinds):
        return write_question(PAIR, asked(body, *kinds))

    def test_told(self):
        p = ("way", ("step", 0, 0), ("node", 0), ("node", 2))
        q = ("way", ("either", ("step", 1, 1), ("stay",)), ("unknown", 0), ("node", 4))
        r = ("way", ("star", ("step", 5, 0)), ("unknown", 1), ("unknown", 0))
        tp, tq, tr = "way s#0 [ p ] s#2", "way $0 [ <q | stay ] t#1", "way $1 [ l * ] $0"
        told = [
            (p, tp), (("not", p), f"not {tp}"), (("not", ("not", p)), f"not not {tp}"),
            (("and", (p, q, r)), f"{tp} and {tq} and {tr}"),
            (("or", (p, q, r)), f"{tp} or {tq} or {tr}"),
            (("and", (("and", (p, q)), r)), f"( {tp} and {tq} ) and {tr}"),
            (("and", (p, ("and", (q, r)))), f"{tp} and ( {tq} and {tr} )"),
            (("or", (p, ("or", (q, r)))), f"{tp} or ( {tq} or {tr} )"),
            (("or", (("or", (p, q)), r)), f"( {tp} or {tq} ) or {tr}"),
            (("and", (p, ("or", (q, r)))), f"{tp} and ( {tq} or {tr} )"),
            (("or", (p, ("and", (q, r)))), f"{tp} or {tq} and {tr}"),
            (("or", (("and", (p, q)), r)), f"{tp} and {tq} or {tr}"),
            (("not", ("and", (p, q))), f"not ( {tp} and {tq} )"),
            (("not", ("or", (p, q))), f"not ( {tp} or {tq} )"),
            (("and", (("not", p), ("not", ("or", (q, r))))), f"not {tp} and not ( {tq} or {tr} )"),
        ]
        for body, text in told:
            self.assertEqual(self.text(body, 0, 1), f"find s , t : {text}")
            self.assertEqual(read_question(PAIR, f"find s , t : {text}"), asked(body, 0, 1))
        self.assertEqual(self.text(p), f"find : {tp}")
        self.assertEqual(self.text(q, 1), f"find t : {tq}")

    def some_body(self, chance, labels, depth):
        if depth == 0 or len(labels) < 2 or chance.random() < 0.2:
            part = [labels.pop() for _ in range(chance.randrange(min(2, len(labels)) + 1))]
            ends = [chance.choice((("node", chance.randrange(5)), ("unknown", chance.randrange(2)))) for _ in range(2)]
            return ("way", some_expression(PAIR, chance, part, 2), *ends)
        if chance.random() < 0.3:
            return ("not", self.some_body(chance, labels, depth - 1))
        parts = [self.some_body(chance, labels, depth - 1) for _ in range(2)]
        if labels and chance.random() < 0.4:
            parts.append(self.some_body(chance, labels, depth - 1))
        return (chance.choice(("and", "or")), tuple(parts))

    def bracketed(self, body):
        if body[0] == "way":
            ends = [f"${n}" if word == "unknown" else f"{'ssstt'[n]}#{'01201'[n]}" for word, n in body[2:]]
            return f"(way {ends[0]}[{bracketed(body[1], 'pquvkl')}]{ends[1]})"
        if body[0] == "not":
            return f"(not {self.bracketed(body[1])})"
        return f"({f' {body[0]} '.join(self.bracketed(part) for part in body[1])})"

    def test_read_back(self):
        chance = by_chance(13)
        done = 0
        while done < 200:
            labels = list(range(6))
            chance.shuffle(labels)
            question = asked(self.some_body(chance, labels, 4), chance.randrange(2), chance.randrange(2))
            if len(ways_of(question)) > 8:
                continue
            done += 1
            text = write_question(PAIR, question)
            self.assertEqual(read_question(PAIR, text), question)
            self.assertEqual(read_question(PAIR, text.replace(" ", "\n\n ").replace("#", " #\n")), question)
            for sign in ";#$</|*+?()[],:":
                text = text.replace(f" {sign} ", sign)
            self.assertEqual(read_question(PAIR, text), question)
            head = f"find {'st'[question[1][0]]},{'st'[question[1][1]]}:"
            self.assertEqual(read_question(PAIR, head + self.bracketed(question[2])), question)
            for less in without_a_pair(write_question(PAIR, question)):
                self.assertNotEqual(read_question(PAIR, less), question)


class Read(unittest.TestCase):
    def test_parts_on_one_level(self):
        text = "find : way s#0 [p] s#0 or (way s#0 [q] s#0 or way s#0 [u] t#0) or way s#1 [k] s#1 and way t#0 [l] t#0"
        body = read_question(PAIR, text)[2]
        self.assertEqual([body[0], [part[0] for part in body[1]]], ["or", ["way", "or", "and"]])
        text = "find:((way s#0[p]s#0))"
        self.assertEqual(read_question(PAIR, text), asked(("way", ("step", 0, 0), ("node", 0), ("node", 0))))

    def test_bad_text(self):
        told = [
            ("", 0), ("find", 1), ("find :", 2), ("find s", 2), ("find s ,", 3), ("find s , : ", 3), ("find s t :", 2),
            ("find s , t , s :", 4), ("find way : ", 1), ("find : way", 3), ("find : way s", 4), ("find : way s # 0", 6),
            ("find : way s # 0 [", 7), ("find : way s # 0 [ ]", 7), ("find : way s # 0 [ p", 8),
            ("find : way s # 0 [ p ) s # 0", 8), ("find : way s # 0 [ p ]", 9), ("find : way s # 0 [ p ] s # 0 ;", 12),
            ("find : way s # 0 [ p ] s # 0 or", 13), ("find : way s # 0 [ p ] s # 0 and or", 13), ("find : not", 3),
            ("find : not and", 3), ("find : ( way s # 0 [ p ] s # 0", 13), ("find : ( way s # 0 [ p ] s # 0 ) )", 14),
            ("find : way $ s [ p ] $ 0", 4), ("find : way $ 00 [ p ] $ 0", 4), ("find : way s $ 0 [ p ] $ 0", 4),
            ("find : way s # 0 [ ( p ] s # 0", 9), ("find : [ p ]", 2), ("find : p", 2), ("find : way s # 0 [ p ] s # 0 not", 12),
            ("ask : way s # 0 [ p ] s # 0", 0), ("find : stay", 2),
        ]
        for text, at in told:
            self.assertEqual(raised(BadText, read_question, PAIR, text).at, at, text)

    def test_meaning(self):
        told = [
            (Unknown, "find z , y : way $9 [ x ] $9", "z"),
            (Unknown, "find s , y : way $9 [ x ] $9", "y"),
            (BadNumber, "find s , s : way $2 [ x ] $9", 2),
            (Unknown, "find s , s : way $1 [ x | <k ] $9", "x"),
            (BadRule, "find s , s : way $1 [ p | <k | x ] $9", "k"),
            (BadNumber, "find s , s : way $1 [ p ] $9 or way $8 [ p ] $7", 9),
            (BadNumber, "find s : way $1 [ p ] $0", 1),
            (BadNumber, "find : way s#0 [ p ] $0", 0),
            (Unknown, "find : way y#9 [ p ] $0", "y"),
            (BadNumber, "find : way s#3 [ z ] $0", 3),
            (BadNumber, "find : way t#2 [ z ] $0", 2),
            (Unknown, "find : way p#0 [ p ] s#0", "p"),
            (Unknown, "find : way s#0 [ s ] s#0", "s"),
            (Unknown, "find p : way s#0 [ p ] s#0", "p"),
            (Unknown, "find : not ( way s#0 [ p ] s#1 and way s#0 [ p ] s#1 ) or way s#0 [ z ] y#0", "z"),
        ]
        for kind, text, thing in told:
            error = raised(kind, read_question, PAIR, text)
            self.assertEqual(error.number if kind is BadNumber else error.name, thing, text)

    def test_check(self):
        stay = "way n#0 [ stay ] n#1"
        self.assertEqual(len(ways_of(read_question(WIDE, "find : " + " and ".join([stay] * 8)))), 8)
        text = "find : " + " or ".join([stay] * 9)
        self.assertEqual(raised(TooLarge, read_question, WIDE, text).part, "question")
        eight = "/".join(f"l{n}" for n in range(8))
        self.assertEqual(len(ways_of(read_question(WIDE, f"find n : way $0 [{eight}] n#0 or way $0 [l8] n#0"))), 2)
        text = f"find : way n#0 [l0/l0] n#0 or way n#0 [{eight}|l8] n#0"
        self.assertEqual(raised(TooLarge, read_question, WIDE, text).part, "expression")
        self.assertEqual(raised(Twice, read_question, WIDE, "find : way n#0[l1]n#0 and not way n#0[l2/l1]n#0").name, "l1")
        self.assertEqual(raised(Unknown, read_question, WIDE, "find : way n#0[l1/l1]n#0 and way z#0[l2]n#0").name, "z")

    def test_twenty(self):
        text = "find : " + "(" * 20 + "way n#0 [ stay ] n#1" + ")" * 20
        self.assertEqual(read_question(WIDE, text), asked(way(end=("node", 1))))
        text = "find : " + "not " * 20 + "way n#0 [ l0 * ] n#1"
        question = read_question(WIDE, text)
        self.assertEqual(write_question(WIDE, question), text)
        text = "find : " + "( not " * 20 + "way n#0 [ l0 ] n#1" + " )" * 20
        self.assertEqual(len(ways_of(read_question(WIDE, text))), 1)
        text = "find : " + "(" * 10 + "way n#0 [" + "(" * 9 + "l0" + ")" * 9 + "] n#1" + ")" * 10
        self.assertEqual(read_question(WIDE, text)[2][1], ("step", 0, 0))


if __name__ == "__main__":
    unittest.main()
