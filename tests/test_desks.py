"""A desk that is told lines [92]."""

import random
import unittest

from onlylooks.databases import Database
from onlylooks.desks import Desk
from onlylooks.errors import (
    Broken, InvalidChange, NeverFits, NoLine, Nothing, OtherSchema, TooDear, TooMany, Unfit, UnknownColumn, UnknownTable)
from onlylooks.fields import Field
from onlylooks.keeper import CountingHouse
from onlylooks.plans import depth, plan
from onlylooks.rules import Rules
from onlylooks.statements import Rule, Total
from onlylooks.tables import Schema, Table
from tests.anything import any_values
from tests.raising import raised
from tests.towns import change, filled, town
from tests.worlds import Maker

OWNED = Rule.reference("item", "shop", [("at", "id")])
KEY = Rule.key("item", "id")
ROWS = {"item": [("b", "x", "small"), ("a", "x", "big"), ("c", "y", "big")], "shop": [("y",), ("x",)]}


def desk(*statements, **rows):
    return Desk(Rules(town(), *statements), filled(town(), **rows))


class MadeTest(unittest.TestCase):
    def test_a_counting_house(self):
        made = desk(OWNED, **ROWS)
        self.assertIsInstance(made, CountingHouse)
        self.assertEqual((made.rules, made.database, made.total), (Rules(town(), OWNED), filled(town(), **ROWS), 0))
        made.do(change([("shop", ("z",))]))
        made.undo()

    def test_broken(self):
        error = raised(Broken, Desk, Rules(town(), OWNED), filled(town(), item=[("a", "x", "big")]))
        self.assertEqual((error.index, error.spot), (0, ("x",)))
        raised(OtherSchema, Desk, Rules(town()), Database(Schema(Table("t", "a"))))


class ChangeLinesTest(unittest.TestCase):
    def test_do(self):
        made = desk(OWNED, KEY)
        self.assertEqual(made.say("do put item a x big"), f"refused {len(made.looked)}")
        self.assertEqual([made.say("do put item a x big / put shop x"), made.say("do put item b x small")], ["done 1", "done 2"])
        self.assertEqual(made.database, filled(town(), item=[("a", "x", "big"), ("b", "x", "small")], shop=[("x",)]))
        self.assertEqual(made.say("do take item a x big"), f"done {len(made.looked)}")
        self.assertEqual((made.database, len(made.steps)), (filled(town(), item=[("b", "x", "small")], shop=[("x",)]), 3))

    def test_ask(self):
        made = desk(OWNED, KEY, shop=[("x",)])
        before = made.database
        self.assertEqual([made.say("ask put item a x big"), made.say(line="ask put shop z")], ["kept 2", "kept 0"])
        self.assertEqual(made.say("ask put item a y big"), f"broken {len(made.looked)}")
        self.assertEqual((made.database, made.steps), (before, ()))

    def test_the_number_of_looks_that_were_asked(self):
        made = desk(OWNED, KEY, shop=[("x",)], item=[("a", "x", "big")])
        for line in ("ask put item a x small", "ask put item b y big", "ask put item b x big", "do put item b y big", "do put item b x big"):
            told = made.say(line)
            self.assertEqual(told.split(" ")[1], str(len(made.looked)))
            self.assertLessEqual(1, len(made.looked))

    def test_put_and_take_in_any_order(self):
        made = desk(OWNED, **ROWS)
        self.assertEqual(made.say("do take item a x big / put item d x big / take item c y big"), f"done {len(made.looked)}")
        self.assertEqual(made.steps, (change([("item", ("d", "x", "big"))], [("item", ("a", "x", "big")), ("item", ("c", "y", "big"))]),))

    def test_indexes_go_through_the_put_ones_first(self):
        made = desk(OWNED, **ROWS)
        for line, index in [("do take shop zz / put shop zz", 1), ("do take box x / put shop z", 1), ("do take shop x / put box x", 0), ("do put shop z / put shop z", 1),
                            ("ask take item a x old", 0), ("depth put item a x", 0), ("do take shop x / take shop x / put shop w", 2), ("do put shop a b", 0)]:
            self.assertEqual(raised(InvalidChange, made.say, line).index, index, line)
        for line, index in [("do take shop zz / put shop w", 1), ("do take shop x / put shop y", 0), ("ask put item a x big", 0), ("ask take item a x small", 0)]:
            self.assertEqual(raised(Unfit, made.say, line).index, index, line)
        self.assertEqual(made.database, filled(town(), **ROWS))

    def test_undo(self):
        made = desk(OWNED)
        self.assertEqual([made.say("do put shop x"), made.say("do put item a x big"), made.say("undo"), made.say("undo")], ["done 0", "done 1", "ok", "ok"])
        self.assertEqual(len(made.database), 0)
        raised(Nothing, made.say, "undo")

    def test_depth(self):
        made = desk(OWNED, KEY)
        for line in ("put item a x big", "put item a x big / put shop x", "take shop x", "take item a x big", "put shop x", "take item a x big / put item b y big"):
            pieces = [piece.split(" ") for piece in line.split(" / ")]
            told = change(*[[(name, tuple(row)) for verb, name, *row in pieces if verb == which] for which in ("put", "take")])
            self.assertEqual(made.say("depth " + line), str(depth(plan(Field(made.rules, told)))))
        self.assertEqual([made.say("depth put item a x big"), made.say("depth take shop q")], ["2", "1"])
        self.assertEqual((made.total, made.looked, made.steps), (0, (), ()))

    def test_depth_whatever_is_allowed(self):
        made = desk(OWNED, KEY)
        made.allow(0)
        self.assertEqual(made.say("depth put item a x big"), "2")
        self.assertEqual(raised(TooDear, made.say, "do put item a x big").number, 2)
        self.assertEqual(raised(TooDear, made.say, "ask put item a x big").number, 2)

    def test_errors_of_the_methods(self):
        none = desk(Total("item", 0, 0))
        raised(NeverFits, none.say, "depth take item a x big")
        raised(Unfit, none.say, "do take item a x big")
        for verb in ("do", "ask", "depth"):
            self.assertEqual(raised(TooMany, none.say, f"{verb} put shop a / put shop b / put shop c / put shop d").limit, 3)
            self.assertEqual(raised(InvalidChange, none.say, f"{verb} put shop a / put shop b / put shop c / put shop a").index, 3)
        wide = Schema(Table("a", "id", ("k", ["p", "q", "r"]), ("m", ["p", "q", "r"])))
        wheres = [None, {"k": ["p"]}, {"m": ["p"]}, {"k": ["p", "q"]}]
        for many, limit in [(4, 200), (2, 16)]:
            made = Desk(Rules(wide, *[Total("a", 0, 3, where=where) for where in wheres[:many]]), filled(wide, a=[(name, "p", "p") for name in "xyz"]))
            for verb in ("do", "ask", "depth"):
                self.assertEqual(raised(TooMany, made.say, verb + " take a x p p / take a y p p / take a z p p").limit, limit)

    def test_total(self):
        made = desk(OWNED, KEY, shop=[("x",)])
        self.assertEqual(made.say("total"), "0")
        many = 0
        for line in ("ask put item a x big", "do put item a x big", "do put item b y big", "depth put item b x big", "ask put item a x small"):
            told = made.say(line)
            many += int(told.split(" ")[1]) if " " in told else 0
            self.assertEqual(made.say("total"), str(many))
        made.say("undo")
        self.assertEqual((made.say("total"), made.total), (str(many), many))


class TableLinesTest(unittest.TestCase):
    def test_count(self):
        made = desk(OWNED, **ROWS)
        for line, many in [("item", 3), ("shop", 2), ("item kind:big", 2), ("item kind:big|small", 3), ("item kind:big|big", 2), ("item at:x", 2), ("item at:x kind:big", 1),
                           ("item kind:big at:x", 1), ("item id:a|b|zz", 2), ("item id:a|b|c at:x|y kind:big|small", 3), ("item kind:old", 0), ("item at:zz", 0), ("shop id:x|x|x", 1)]:
            self.assertEqual(made.say("count " + line), str(many), line)

    def test_rows(self):
        made = desk(OWNED, **ROWS)
        self.assertEqual([made.say("rows item"), made.say("rows shop"), desk().say("rows shop")], ["a x big\nb x small\nc y big", "x\ny", ""])

    def test_unknown_names(self):
        made = desk(OWNED, **ROWS)
        for line in ("count box", "count box kind:big", "rows box"):
            self.assertEqual(raised(UnknownTable, made.say, line).value, "box")
        for line, value in [("count item box:a", "box"), ("count shop id:x kind:big", "kind"), ("count shop at:x kind:big", "at")]:
            self.assertEqual(raised(UnknownColumn, made.say, line).value, value)

    def test_names_like_the_words_of_lines(self):
        schema = Schema(Table("put", "do", ("take", ["count", "rows"])), Table("rows", "total"))
        made = Desk(Rules(schema, Total("rows", 0, 1)), Database(schema))
        self.assertEqual([made.say("do put put put count / put rows rows"), made.say("rows put"), made.say("rows rows"), made.say("count put take:count|rows do:put")],
                         ["done 1", "put count", "rows", "1"])
        self.assertEqual([made.say("ask take put put count / put put put rows"), made.say("do take rows rows"), made.say("total")], ["kept 0", "done 0", "1"])


class NoLineTest(unittest.TestCase):
    def refused(self, value):
        made = desk(OWNED, **ROWS)
        made.say("do put shop z")
        before = made.database, made.steps, made.looked, made.total
        raised(NoLine, made.say, value)
        self.assertEqual((made.database, made.steps, made.looked, made.total), before)

    def test_values_of_any_kind(self):
        for value in [*any_values(), b"total", ["total"], ("total",), b"undo", {"total": 1}]:
            self.refused(value)

    def test_lines(self):
        for line in [
            "total ", " total", "Total", "total x", "totals", "total\n", "undo ", " undo", "undo x", "undo undo", "undo\n", "do", "do ", "ask", "depth", "do undo", "do total",
            "do put", "do put item", "do put ", "do put item ", "do put  item a", "do  put shop x", "do put shop  x", "do put shop x ", " do put shop x", "do put shop x /",
            "do put shop x / ", "do / put shop x", "do put shop x / / put shop y", "do put shop x /put shop y", "do put shop x/ put shop y", "do put shop x  / put shop y",
            "put shop x", "take shop x", "do Put shop x", "do give shop x", "do shop x", "do put Shop x", "do put shop X", "do put shop x1",
            "do put shop abcdefghi", "do put shop_x y", "do put shop x,", "do put shop x; take shop x", "do\nput shop x", "do put shop x\n", "do put shop\tx",
            "do put shop x / give shop y", "do put shop x / put shop", "do put shop x / take", "DO put shop x", "does put shop x", "doput shop x", "ask shop", "depth shop x",
            "count", "count ", "count Item", "count item ", "count  item", "count item kind", "count item kind:", "count item :big", "count item kind:big|", "count item kind:|big",
            "count item kind:big||small", "count item kind:Big", "count item kind:big kind:small", "count item kind:big kind:big", "count item kind:big:small", "count item kind=big",
            "count item kind: big", "count item kind:big  at:x", "count item Kind:big", "count item kind:big\n", "count item kind:big|abcdefghi", "count item,", "count item at:x at:y",
            "counts item", "rows", "rows ", "rows item ", "rows item shop", "rows Item", "rows item kind:big", "rows  item", "row item", "rows item\n", "\n", " ", "x", "house",
        ]:
            self.refused(line)
        self.refused(line + " ")

    def test_no_line_comes_ahead_of_the_errors_of_the_methods(self):
        for line in ("count box kind", "count box at:x at:y", "rows box x", "do put box x / give shop x", "do put box x / put shop X", "ask put shop x / put shop x / put",
                     "depth take box x /"):
            self.refused(line)

    def test_lines_that_are_otherwise_at_one_to_three_places(self):
        """Whatever a line tells, it is either read by the words of the document, or no line."""
        chance = random.Random(5)
        lines = ["do put item d x big / take shop y", "ask put item d x big", "depth take item a x big / put shop q", "count item kind:big|small at:x", "rows item", "total", "undo"]
        read = refused = 0
        for number in range(4000):
            line = chance.choice(lines)
            for _ in range(chance.randint(1, 3)):
                place = chance.randrange(len(line) + 1)
                line = line[:place] + chance.choice(["", " ", "/", ":", "|", "x", "X", " / ", "\n", "1", "put ", "kind:"]) + line[place + chance.choice([0, 1]):]
            made = desk(OWNED, **ROWS)
            expected = self.is_line(line)
            try:
                made.say(line)
                found = True
            except NoLine:
                found = False
            except (InvalidChange, TooMany, Unfit, UnknownTable, UnknownColumn, Nothing, NeverFits):
                found = True
            self.assertEqual(found, expected, line)
            read, refused = read + found, refused + (not found)
        self.assertGreater(min(read, refused), 200)

    def is_line(self, line):
        """By words alone."""
        def is_word(text):
            return 1 <= len(text) <= 8 and all("a" <= sign <= "z" for sign in text)
        verb, *words = line.split(" ")
        if line in ("undo", "total"):
            return True
        if verb in ("do", "ask", "depth"):
            pieces = [[]]
            for word in words:
                if word == "/":
                    pieces.append([])
                else:
                    pieces[-1].append(word)
            return all(len(piece) >= 3 and piece[0] in ("put", "take") and all(map(is_word, piece)) for piece in pieces)
        if verb == "rows":
            return len(words) == 1 and is_word(words[0])
        if verb == "count" and words and is_word(words[0]):
            told = [word.split(":") for word in words[1:]]
            columns = [column for column, *_ in told]
            return len(set(columns)) == len(columns) and all(
                len(each) == 2 and is_word(each[0]) and all(map(is_word, each[1].split("|"))) for each in told)
        return False


class HistoryTest(unittest.TestCase):
    def test_histories(self):
        """Answers, numbers of looks and rows over histories, beside a count of everything."""
        told = {"done": 0, "refused": 0}
        for number in range(80):
            maker = Maker(random.Random(number))
            schema = maker.schema(2, 2, 3)
            rules, database = maker.rules(schema, 4), Database(schema)
            if not rules.keeps(database):
                continue
            made, before, total = Desk(rules, database), [], 0
            for _ in range(10):
                made_change = maker.change(schema, "bc")
                line = " / ".join([" ".join(["put", name, *row]) for name, row in made_change.put_rows]
                                  + [" ".join(["take", name, *row]) for name, row in made_change.taken_rows])
                if not made_change.fits(database):
                    raised(Unfit, made.say, "do " + line)
                    continue
                try:
                    asked = made.say("ask " + line)
                except TooMany:
                    continue
                behind = made_change.on(database)
                word = "done" if rules.keeps(behind) else "refused"
                self.assertEqual(asked.split(" ")[0], "kept" if word == "done" else "broken")
                self.assertEqual(made.say("do " + line), word + " " + asked.split(" ")[1])
                self.assertLessEqual(int(asked.split(" ")[1]), int(made.say("depth " + line)))
                total += 2 * int(asked.split(" ")[1])
                told[word] += 1
                if word == "done":
                    before.append(database)
                    database = behind
                if before and maker.source.random() < 0.2:
                    self.assertEqual(made.say("undo"), "ok")
                    database = before.pop()
                self.assertEqual((made.database, made.say("total")), (database, str(total)))
                for name in schema.names:
                    self.assertEqual(made.say("count " + name), str(len(database[name])))
                    self.assertEqual(made.say("rows " + name), "\n".join(" ".join(row) for row in database[name]))
        self.assertGreater(min(told.values()), 40)
