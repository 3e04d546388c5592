"""The looks of a change [50], [51]."""

import random
import unittest

from onlylooks.changes import Change
from onlylooks.databases import Database
from onlylooks.demands import demands
from onlylooks.errors import OtherSchema
from onlylooks.looks import Look, looks
from onlylooks.rules import Rules
from onlylooks.statements import Rule, Total
from onlylooks.tables import Schema, Table
from tests.anything import any_values, changed, is_plain
from tests.towns import filled, town
from tests.worlds import Maker, all_rows, databases

BIG = {"kind": ["big"]}
OWNED = Rule.reference("item", "shop", [("at", "id")])


def item(*row):
    return ("item", row)


def shop(name):
    return ("shop", (name,))


def told(found):
    return [(look.table, look.words, look.where, look.most) for look in found]


class LooksTest(unittest.TestCase):
    def check(self, statements, put, taken, *expected, schema=None):
        schema = town() if schema is None else schema
        found = looks(Rules(schema, *statements), Change(schema, put, taken))
        self.assertIs(type(found), tuple)
        self.assertEqual(told(found), list(expected))
        self.assertTrue(is_plain(told(found)))

    def test_none(self):
        self.check([], [item("a", "x", "big")], [])
        self.check([OWNED], [], [])
        self.check([OWNED], [item("a", "x", "big")], [item("b", "x", "big")])

    def test_for_a_and_b(self):
        self.check([OWNED], [item("a", "x", "big")], [], ("shop", {"id": "x"}, {}, 1))
        self.check([OWNED], [], [item("a", "x", "big")], ("item", {"at": "x"}, {}, 2), ("shop", {"id": "x"}, {}, 1))
        self.check([OWNED], [], [shop("x")], ("item", {"at": "x"}, {}, 1), ("shop", {"id": "x"}, {}, 2))
        # A shop more: the reference holds for certain, as b is not asked for.
        self.check([OWNED], [shop("x")], [], ("item", {"at": "x"}, {}, 1))

    def test_most_of_a(self):
        rule = Rule.none("item", "shop", [("at", "id")])
        some = [item(name, "x", "big") for name in "abc"]
        for many in range(1, 4):
            self.check([rule], [], some[:many], ("item", {"at": "x"}, {}, 1 + many), ("shop", {"id": "x"}, {}, 1))
            self.check([rule], some[:many], [], ("shop", {"id": "x"}, {}, 1))
        self.check([rule], [some[0], shop("x")], [some[1]], ("item", {"at": "x"}, {}, 1))

    def test_most_of_b(self):
        some = [item(name, "x", "big") for name in "abc"]
        for least, most, shift, expected in [
            (0, 0, -3, 4), (0, 0, -1, 2), (0, 0, 1, None), (0, 1, 1, 1), (0, 1, 2, None), (0, 3, 1, 3), (0, 3, 3, 1),
            (1, None, -3, 4), (1, None, -1, 2), (1, None, 1, None), (2, None, 1, 1), (2, None, 2, None), (2, None, -1, 3),
            (1, 1, 1, 1), (1, 1, 2, None), (1, 2, 2, 1), (2, 2, -1, 4), (2, 3, -3, 7), (2, 3, 3, 1),
        ]:
            rule = Rule("shop", "item", [("id", "at")], least, most)
            put, taken = (some[:shift], []) if shift > 0 else ([], some[:-shift])
            rest = [] if expected is None else [("item", {"at": "x"}, {}, expected)]
            self.check([rule], put, taken, ("shop", {"id": "x"}, {}, 1), *rest)
            total = [] if expected is None else [("item", {}, {}, expected)]
            self.check([Total("item", least, most)], put, taken, *total)

    def test_totals(self):
        self.check([Total("item", 0, 2, where=BIG)], [item("a", "x", "big")], [], ("item", {}, {"kind": ("big",)}, 2))
        self.check([Total("item", 1, 1)], [], [item("a", "x", "big")], ("item", {}, {}, 3))
        self.check([Total("item", 1, None)], [item("a", "x", "big")], [])

    def test_without_pairs(self):
        rule = Rule("item", "shop", [], 1, 2, where=BIG)
        self.check([rule], [shop("x")], [], ("item", {}, {"kind": ("big",)}, 1), ("shop", {}, {}, 2))

    def test_wheres(self):
        rule = Rule("item", "item", [("at", "id")], 0, 1, where=BIG, other_where={"kind": ["small"]})
        self.check([rule], [item("a", "x", "small")], [],
                   ("item", {"at": "a"}, {"kind": ("big",)}, 1), ("item", {"id": "a"}, {"kind": ("small",)}, 1))
        schema = Schema(Table("t", ("a", ["z", "y", "x"]), ("b", ["q", "p"]), "c"))
        total = Total("t", 0, 1, where={"b": ["q"], "a": ["z", "x"]})
        self.check([total], [("t", ("x", "q", "n"))], [], ("t", {}, {"a": ("x", "z"), "b": ("q",)}, 1), schema=schema)
        found = looks(Rules(schema, total), Change(schema, [("t", ("x", "q", "n"))], []))[0]
        self.assertEqual(list(found.where), ["a", "b"])

    def test_words_ascend(self):
        rule = Rule.key("item", "id", "at")
        found = looks(Rules(town(), rule), Change(town(), [item("b", "a", "big")], []))
        self.assertEqual([list(look.words.items()) for look in found], [[("at", "a"), ("id", "b")]])

    def test_a_column_in_both_words_and_where(self):
        schema = Schema(Table("t", ("a", ["p", "q", "r"]), ("k", ["x", "y"])), Table("u", ("a", ["p", "q", "r"]), ("k", ["x", "y"])))
        rule = Rule("t", "u", [("a", "a")], 1, 1, where={"a": ["p", "q"], "k": ["x"]}, other_where={"a": ["q", "r"], "k": ["y"]})
        # p: it fits the where of t alone. r: that of u alone. q: both.
        self.check([rule], [("t", ("p", "x"))], [], schema=schema)
        self.check([rule], [], [("t", ("p", "x"))], ("t", {"a": "p"}, {"k": ("x",)}, 2), schema=schema)
        self.check([rule], [("u", ("r", "y"))], [], ("u", {"a": "r"}, {"k": ("y",)}, 1), schema=schema)
        self.check([rule], [("u", ("q", "y"))], [], ("t", {"a": "q"}, {"k": ("x",)}, 1), ("u", {"a": "q"}, {"k": ("y",)}, 1), schema=schema)
        self.check([rule], [("t", ("r", "x")), ("u", ("p", "y"))], [], schema=schema)

    def test_alike_looks_stand_once(self):
        """Where the first one stands, with the greatest most of them."""
        two, three = Rule.at_most("shop", "item", [("id", "at")], 2), Rule.at_most("shop", "item", [("id", "at")], 3)
        one_more = [item("a", "x", "big")]
        there = ("shop", {"id": "x"}, {}, 1)
        self.check([two, OWNED, three], one_more, [], there, ("item", {"at": "x"}, {}, 3))
        self.check([three, OWNED, two], one_more, [], there, ("item", {"at": "x"}, {}, 3))
        self.check([two, three, two], one_more, [], there, ("item", {"at": "x"}, {}, 3))
        self.check([OWNED, two], [], [shop("x")], ("item", {"at": "x"}, {}, 3), ("shop", {"id": "x"}, {}, 2))
        self.check([Total("shop", 0, 1), Total("item", 0, 1), Total("shop", 0, 3)], [shop("x"), *one_more], [],
                   ("shop", {}, {}, 3), ("item", {}, {}, 1))
        self.check([Rule.key("item", "id")], one_more, [], ("item", {"id": "a"}, {}, 1))
        self.check([Rule.key("item", "id")], [], one_more, ("item", {"id": "a"}, {}, 3))

    def test_looks_that_differ_otherwise_stay(self):
        big = Rule.at_most("shop", "item", [("id", "at")], 2, other_where=BIG)
        every = Rule.at_most("shop", "item", [("id", "at")], 2)
        self.check([big, every, Total("item", 0, 3)], [item("a", "x", "big")], [], ("shop", {"id": "x"}, {}, 1),
                   ("item", {"at": "x"}, {"kind": ("big",)}, 2), ("item", {"at": "x"}, {}, 2), ("item", {}, {}, 3))

    def test_order(self):
        self.check([Total("item", 0, 3), OWNED], [item("a", "z", "big")], [item("b", "x", "big"), shop("y")],
                   ("shop", {"id": "z"}, {}, 1), ("item", {"at": "x"}, {}, 2), ("shop", {"id": "x"}, {}, 1),
                   ("item", {"at": "y"}, {}, 1), ("shop", {"id": "y"}, {}, 2))

    def test_other_schema(self):
        turned = Schema(town()["shop"], town()["item"])
        with self.assertRaises(OtherSchema):
            looks(Rules(town(), OWNED), Change(turned, [], []))


class LookTest(unittest.TestCase):
    """A Look by itself [50]."""

    def look(self, rule, put):
        return looks(Rules(town(), rule), Change(town(), put, []))[-1]

    def test_answers(self):
        rule = Rule("shop", "item", [("id", "at")], 0, 2, other_where=BIG)
        look = self.look(rule, [item("z", "x", "big")])
        self.assertEqual(told([look]), [("item", {"at": "x"}, {"kind": ("big",)}, 2)])
        rows = [("a", "x", "big"), ("b", "x", "big"), ("c", "x", "big")]
        for many, expected in enumerate([0, 1, 2, 2]):
            database = filled(town(), item=[*rows[:many], ("d", "x", "small"), ("e", "y", "big")])
            answer = look(database)
            self.assertEqual(answer, expected)
            self.assertIs(type(answer), int)
            self.assertEqual(len(database), many + 2)

    def test_dicts_that_are_changed(self):
        look = self.look(Rule("shop", "item", [("id", "at")], 0, 2, other_where=BIG), [item("z", "x", "big")])
        changed(look.words)
        changed(look.where)
        self.assertEqual((look.words, look.where), ({"at": "x"}, {"kind": ("big",)}))
        self.assertEqual(look(filled(town(), item=[("a", "x", "big")])), 1)

    def test_equal(self):
        def made():
            return looks(Rules(town(), Rule.at_most("shop", "item", [("id", "at")], 2, other_where=BIG), Total("item", 0, 2, where=BIG),
                               Total("item", 0, 2), Total("item", 0, 2, where={"kind": ["small"]}), Rule.key("item", "id")),
                         Change(town(), [item("z", "x", "big"), item("y", "x", "small"), shop("y")], []))
        one, other = made(), made()
        self.assertGreater(len(one), 5)
        for index, each in enumerate(one):
            self.assertIsInstance(each, Look)
            for at, another in enumerate(other):
                self.assertIs(each == another, index == at)
                self.assertIs(each != another, index != at)
            for value in [*any_values(), each.table, told([each])[0]]:
                self.assertIs(each == value, False)
                self.assertIs(each != value, True)
        self.assertNotEqual(self.look(Total("item", 0, 2), [item("z", "x", "big")]), self.look(Total("item", 0, 3), [item("z", "x", "big")]))

    def test_other_schema(self):
        look = self.look(Total("item", 0, 2, where=BIG), [item("z", "x", "big")])
        for schema in (Schema(Table("shop", "id")), Schema(Table("item", "id", "at")), Schema(Table("item", ("kind", ["x", "y"])))):
            with self.assertRaises(OtherSchema):
                look(Database(schema))


class EnoughTest(unittest.TestCase):
    def test_whether_a_demand_holds_is_told_by_the_answers(self):
        """Databases that the change fits and that answer alike are alike in each demand."""
        seen = 0
        for number in range(120):
            maker = Maker(random.Random(number))
            schema = maker.schema()
            rules, change = maker.rules(schema), maker.change(schema, ["b", "c"])
            if len(all_rows(schema, "bcx")) > 9:
                continue
            asked, found, met = looks(rules, change), demands(rules, change), {}
            for database in databases(schema, "bcx", 5):
                if change.fits(database):
                    answer = tuple(look(database) for look in asked)
                    self.assertTrue(all(0 <= value <= look.most for value, look in zip(answer, asked)))
                    truths = [demand(database) for demand in found]
                    self.assertEqual(met.setdefault(answer, truths), truths, number)
                    seen += 1
        self.assertGreater(seen, 2000)
