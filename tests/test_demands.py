"""What has to hold ahead of a change [42] to [45]."""

import random
import unittest

from onlylooks.changes import Change
from onlylooks.databases import Database
from onlylooks.demands import Demand, demands
from onlylooks.errors import OtherSchema
from onlylooks.rules import Rules
from onlylooks.statements import Rule, Total
from onlylooks.tables import Schema, Table
from tests.anything import any_values, changed, is_plain
from tests.towns import filled, house, town
from tests.worlds import Maker, all_rows, databases

BIG = {"kind": ["big"]}
OWNED = Rule.reference("item", "shop", [("at", "id")])
FEW = Rule.at_most("shop", "item", [("id", "at")], 1, other_where=BIG)


def item(*row):
    return ("item", row)


def shop(name):
    return ("shop", (name,))


def told(rules, change):
    return [(each.rule_index, each.at, each.shift, each.other_shift) for each in demands(rules, change)]


class DemandsTest(unittest.TestCase):
    def check(self, statements, put, taken, *expected, schema=None):
        """The demands of a change, and those of its contrary, which shift the other way."""
        schema = town() if schema is None else schema
        rules = Rules(schema, *statements)
        self.assertEqual(told(rules, Change(schema, put, taken)), list(expected))
        if not put or not taken:
            back = [(index, at, -shift, -other) for index, at, shift, other in expected]
            self.assertEqual(told(rules, Change(schema, taken, put)), back)

    def test_nothing(self):
        self.check([], [item("a", "x", "big")], [])
        self.check([OWNED, FEW, Total("item", 0, 1)], [], [])
        self.check([FEW, Total("shop", 0, 1)], [item("a", "x", "small")], [])

    def test_each_side(self):
        self.check([OWNED], [item("a", "x", "big")], [], (0, ("x",), 1, 0))
        self.check([OWNED], [shop("x")], [], (0, ("x",), 0, 1))
        self.check([FEW], [item("a", "x", "big")], [], (0, ("x",), 0, 1))
        self.check([FEW], [shop("x")], [], (0, ("x",), 1, 0))

    def test_both_sides_of_one_place(self):
        self.check([OWNED], [item("a", "x", "big"), shop("x")], [], (0, ("x",), 1, 1))
        self.check([OWNED], [shop("x")], [item("a", "x", "big")], (0, ("x",), -1, 1))
        self.check([OWNED], [item("a", "x", "big"), item("b", "x", "big")], [shop("x")], (0, ("x",), 2, -1))
        self.check([Rule.key("shop", "id")], [shop("x")], [], (0, ("x",), 1, 1))

    def test_rows_that_cancel_out(self):
        self.check([OWNED], [item("a", "x", "big")], [item("b", "x", "small")])
        self.check([OWNED], [item("a", "x", "big"), shop("x")], [item("b", "x", "small")], (0, ("x",), 0, 1))
        self.check([FEW], [item("a", "x", "big")], [item("b", "x", "big")])
        self.check([FEW], [item("a", "x", "big")], [item("a", "x", "small")], (0, ("x",), 0, 1))
        self.check([Total("item", 0, 1)], [item("a", "x", "big")], [item("a", "x", "small")])
        self.check([Total("item", 0, 1)], [item("a", "x", "big")], [item("a", "x", "small"), item("b", "x", "small")],
                   (0, (), 0, -1))

    def test_totals(self):
        self.check([Total("item", 0, 2, where=BIG), Total("shop", 0, 1), Total("item", 0, 3)],
                   [item("a", "x", "big"), item("b", "x", "small")], [], (0, (), 0, 1), (2, (), 0, 2))
        self.check([Total("shop", 1, None)], [shop("a"), shop("b"), shop("c")], [], (0, (), 0, 3))

    def test_without_pairs(self):
        rule = Rule("item", "shop", [], 1, 2, where=BIG)
        self.check([rule], [item("a", "x", "big"), item("a", "x", "small"), shop("z")], [], (0, (), 1, 1))
        self.check([rule], [item("a", "x", "small")], [])
        self.check([Rule.none("item", "item", [])], [item("a", "x", "small")], [item("a", "x", "big")])
        self.check([Rule("item", "item", [], 0, 3, other_where=BIG)], [item("a", "x", "small")], [item("a", "x", "big")],
                   (0, (), 0, -1))

    def test_two_pairs(self):
        cross = Rule.none("item", "item", [("id", "at"), ("at", "id")])
        self.check([cross], [item("a", "x", "big")], [], (0, ("a", "x"), 1, 0), (0, ("x", "a"), 0, 1))
        self.check([cross], [item("a", "a", "big")], [], (0, ("a", "a"), 1, 1))
        self.check([cross], [item("a", "x", "big"), item("x", "a", "big")], [], (0, ("a", "x"), 1, 1), (0, ("x", "a"), 1, 1))
        self.check([Rule.key("item", "id", "at")], [item("a", "x", "big")], [], (0, ("a", "x"), 1, 1))
        self.check([Rule.key("item", "at", "id")], [item("a", "x", "big")], [], (0, ("x", "a"), 1, 1))

    def test_a_table_beside_itself(self):
        above = Rule("item", "item", [("at", "id")], 0, 1)
        self.check([above], [item("a", "x", "big")], [], (0, ("x",), 1, 0), (0, ("a",), 0, 1))
        self.check([above], [item("a", "a", "big")], [], (0, ("a",), 1, 1))
        self.check([above], [item("a", "x", "big"), item("x", "a", "big")], [], (0, ("x",), 1, 1), (0, ("a",), 1, 1))

    def test_where_on_either_side(self):
        rule = Rule("item", "item", [("at", "id")], 0, 1, where=BIG, other_where={"kind": ["small"]})
        self.check([rule], [item("a", "x", "big")], [], (0, ("x",), 1, 0))
        self.check([rule], [item("a", "x", "small")], [], (0, ("a",), 0, 1))
        self.check([rule], [item("a", "a", "small")], [item("b", "a", "big")], (0, ("a",), -1, 1))

    def test_pairs_of_marks(self):
        schema = Schema(Table("t", ("a", ["p", "q"]), ("b", ["x", "y", "z"]), "n"), Table("u", ("c", ["p", "q"])))
        rule = Rule("t", "u", [("a", "c")], 1, 1, where={"b": ["z", "x"]})
        self.check([rule], [("t", ("p", "x", "n")), ("u", ("q",)), ("t", ("q", "y", "n"))], [],
                   (0, ("p",), 1, 0), (0, ("q",), 0, 1), schema=schema)
        self.check([rule], [("t", ("q", "z", "m"))], [("u", ("q",)), ("t", ("p", "x", "n"))],
                   (0, ("q",), 1, -1), (0, ("p",), -1, 0), schema=schema)

    def test_order(self):
        """By statements, then by the entries that first count at a place, put ones first."""
        self.check([Total("shop", 0, 3), OWNED, FEW, Total("item", 0, 3)],
                   [item("a", "z", "big"), shop("y")], [item("b", "x", "big")],
                   (0, (), 0, 1), (1, ("z",), 1, 0), (1, ("y",), 0, 1), (1, ("x",), -1, 0),
                   (2, ("z",), 0, 1), (2, ("y",), 1, 0), (2, ("x",), 0, -1))
        self.check([OWNED], [shop("b"), item("a", "c", "big")], [item("a", "b", "big")],
                   (0, ("b",), -1, 1), (0, ("c",), 1, 0))
        # The place x counts first for a row that another one cancels out; it stands there.
        self.check([OWNED], [item("a", "x", "big"), shop("y"), shop("x")], [],
                   (0, ("x",), 1, 1), (0, ("y",), 0, 1))
        self.check([OWNED], [item("a", "x", "big"), shop("y")], [item("b", "x", "big")], (0, ("y",), 0, 1))
        other = Rule("item", "item", [("at", "id")], 0, 2)
        self.check([other], [item("a", "b", "big"), item("b", "c", "big")], [],
                   (0, ("b",), 1, 1), (0, ("a",), 0, 1), (0, ("c",), 1, 0))

    def test_equal_statements_each_for_itself(self):
        self.check([OWNED, OWNED], [shop("x")], [], (0, ("x",), 0, 1), (1, ("x",), 0, 1))

    def test_other_schema(self):
        turned = Schema(town()["shop"], town()["item"])
        for change in (Change(turned, [], []), Change(turned, [shop("x")], [])):
            for rules in (Rules(town()), Rules(town(), OWNED)):
                with self.assertRaises(OtherSchema):
                    demands(rules, change)

    def test_names_matter_only_by_being_equal(self):
        become = {"a": "zz", "x": "a", "b": "q", "y": "xy"}
        def exchanged(entries):
            return [(name, tuple(become.get(word, word) for word in row)) for name, row in entries]
        put, taken = [item("a", "x", "big"), shop("x")], [item("b", "y", "big")]
        rules = Rules(town(), Rule.key("item", "id"), OWNED, FEW, Total("item", 0, 2))
        one = told(rules, Change(town(), put, taken))
        other = told(rules, Change(town(), exchanged(put), exchanged(taken)))
        self.assertEqual([(index, tuple(become[word] for word in at), *rest) for index, at, *rest in one], other)


class DemandTest(unittest.TestCase):
    """A Demand by itself [44]."""

    def one(self, statement, put, taken=(), index=0):
        return demands(Rules(town(), statement), Change(town(), list(put), list(taken)))[index]

    def test_properties(self):
        rules = Rules(town(), Total("shop", 0, 1), FEW)
        found = demands(rules, Change(town(), [item("a", "x", "big"), shop("x")], []))
        self.assertIs(type(found), tuple)
        self.assertEqual([type(each) for each in found], [Demand, Demand])
        self.assertEqual([each.schema for each in found], [town()] * 2)
        self.assertEqual([each.statement for each in found], [Total("shop", 0, 1), FEW])
        for each in found:
            self.assertTrue(is_plain((each.rule_index, each.at, each.shift, each.other_shift)))
            self.assertEqual([type(value) for value in (each.rule_index, each.at, each.shift, each.other_shift)],
                             [int, tuple, int, int])

    def test_the_statement_cannot_be_changed(self):
        found = self.one(FEW, [shop("x")])
        changed(found.statement.other_where)
        self.assertEqual(found.statement, FEW)

    def test_called_with_the_database_ahead(self):
        full = filled(town(), item=[("a", "x", "big"), ("b", "x", "big"), ("c", "y", "big")], shop=[("x",), ("z",)])
        cases = [
            (OWNED, [item("d", "x", "big")], [], True), (OWNED, [item("d", "q", "big")], [], False),
            (OWNED, [], [shop("x")], False), (OWNED, [], [shop("z")], True), (OWNED, [shop("y")], [], True),
            (OWNED, [], [item("c", "y", "big")], True), (FEW, [item("d", "z", "big")], [], True),
            (FEW, [item("d", "x", "big")], [], False), (FEW, [item("d", "y", "big")], [], True),
            (FEW, [shop("y")], [], True), (FEW, [], [item("a", "x", "big")], True), (FEW, [], [shop("x")], True),
            (Rule.at_most("shop", "item", [("id", "at")], 0), [], [item("a", "x", "big")], False),
            (Total("item", 0, 3), [item("d", "x", "big")], [], False), (Total("item", 0, 3), [], [item("a", "x", "big")], True),
            (Total("item", 2, 3), [], [item("a", "x", "big"), item("b", "x", "big")], False),
            (Total("item", 1, None), [item("d", "x", "big"), item("e", "x", "big")], [], True),
            (Total("item", 1, 1, where={"kind": ["small"]}), [item("d", "x", "small")], [], True),
            (Rule("item", "shop", [], 1, 2), [shop("q")], [], False), (Rule("item", "shop", [], 1, 3), [shop("q")], [], True),
            (Rule("item", "shop", [], 1, 2), [], [shop("x"), shop("z")], False),
        ]
        for statement, put, taken, expected in cases:
            before = full.copied()
            self.assertIs(self.one(statement, put, taken)(full), expected, (put, taken))
            self.assertEqual(full, before)

    def test_no_row_behind_the_change(self):
        """Where a + shift is 0, b may be any."""
        rule = Rule.exactly("shop", "item", [("id", "at")], 1)
        found = self.one(rule, [], [shop("x")])
        for many in range(4):
            rows = [(name, "x", "big") for name in "abc"[:many]]
            self.assertIs(found(filled(town(), item=rows, shop=[("x",)])), True)
        self.assertIs(self.one(rule, [item("d", "x", "big")])(filled(town(), item=[("a", "x", "big")])), True)
        self.assertIs(self.one(rule, [item("d", "x", "big")])(filled(town(), item=[("a", "x", "big")], shop=[("x",)])), False)

    def test_a_place_that_a_where_bars(self):
        schema = Schema(Table("t", ("a", ["p", "q"]), "n"), Table("u", ("a", ["p", "q"]), "n"))
        rule = Rule("t", "u", [("a", "a")], 1, 1, where={"a": ["p"]}, other_where={"a": ["q"]})
        ahead = filled(schema, t=[("p", "x"), ("q", "x")], u=[("p", "x"), ("q", "x")])
        one, other = demands(Rules(schema, rule), Change(schema, [("t", ("p", "y")), ("u", ("q", "y"))], []))
        self.assertEqual((one.at, other.at), (("p",), ("q",)))
        # At p no row of u counts; at q there is no row of t that does.
        self.assertEqual((one(ahead), other(ahead)), (False, True))

    def test_other_schema(self):
        turned = Schema(town()["shop"], town()["item"])
        for statement in (OWNED, FEW, Total("shop", 0, 1)):
            with self.assertRaises(OtherSchema):
                self.one(statement, [shop("x")])(Database(turned))

    def test_equal(self):
        rules = Rules(town(), OWNED, OWNED, FEW)
        change = Change(town(), [shop("x"), shop("y")], [])
        one, other = demands(rules, change), demands(rules, change)
        self.assertEqual(one, other)
        for index, each in enumerate(one):
            for at, another in enumerate(other):
                self.assertIs(each == another, index == at)
                self.assertIs(each != another, index != at)
        self.assertNotEqual(self.one(OWNED, [shop("x")]), self.one(OWNED, [], [shop("x")]))
        self.assertNotEqual(self.one(OWNED, [shop("x")]), self.one(OWNED, [item("a", "x", "big")]))
        self.assertNotEqual(self.one(OWNED, [shop("x")]), self.one(Rule("item", "shop", [("at", "id")], 1, 3), [shop("x")]))
        more = Schema(*[town()[name] for name in town().names], Table("z", "id"))
        there = demands(Rules(more, OWNED), Change(more, [shop("x")], []))[0]
        self.assertNotEqual(self.one(OWNED, [shop("x")]), there)
        for value in [*any_values(), OWNED, town()]:
            self.assertIs(one[0] == value, False)
            self.assertIs(one[0] != value, True)


class KeptTest(unittest.TestCase):
    def test_kept_behind_exactly_if_all_demands_hold(self):
        """Over all small databases of small schemas that keep the rules and that the change fits [45]."""
        looked, kept = 0, 0
        for number in range(400):
            maker = Maker(random.Random(number))
            schema = maker.schema()
            rules, change = maker.rules(schema), maker.change(schema, ["b", "c"])
            names = next((some for some in ("bcx", "bc") if len(all_rows(schema, some)) <= 9), None)
            if names is None:
                continue
            found = demands(rules, change)
            for database in databases(schema, names, 5):
                if rules.keeps(database) and change.fits(database):
                    looked += 1
                    is_kept = rules.keeps(change.on(database))
                    kept += is_kept
                    self.assertEqual(is_kept, all([demand(database) for demand in found]), number)
        self.assertGreater(kept, 500)
        self.assertGreater(looked - kept, 500)

    def test_the_house(self):
        rules = Rules(town(), Rule.key("item", "id"), OWNED, FEW, Total("shop", 0, 2))
        for put, taken, expected in [([item("c", "x", "small")], [], True), ([item("c", "x", "big")], [], False),
                                     ([], [shop("x")], False), ([item("c", "y", "big"), shop("y")], [], True)]:
            self.assertIs(all([demand(house()) for demand in demands(rules, Change(town(), put, taken))]), expected)
