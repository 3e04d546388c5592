"""What follows from rules [34], [35]."""

import random
import unittest

from onlylooks.databases import Database
from onlylooks.errors import Misfit, OtherSchema, TooMany
from onlylooks.facts import Counted, Long, Short
from onlylooks.follows import barren, core, covers, follows, needless
from onlylooks.possible import wanted
from onlylooks.rules import Rules
from onlylooks.statements import Rule, Statement, Total
from onlylooks.tables import Schema, Table
from tests.anything import any_values
from tests.towns import town
from tests.worlds import Maker, all_rows, databases

BIG = {"kind": ["big"]}
OWNED = Rule.reference("item", "shop", [("at", "id")])
FEW = Rule.at_most("shop", "item", [("id", "at")], 1, other_where=BIG)


def three():
    return Schema(Table("a", "id", "up"), Table("b", "id", "up"), Table("c", "id", ("k", ["p", "q"])))


def two_for_each(text):
    return [Rule(one, other, [], 2, None) for one, other in text.split()]


class FollowsTest(unittest.TestCase):
    def check(self, statements, statement, expected, schema=None):
        """follows tells None, or a database with so many rows that shows it."""
        rules = Rules(town() if schema is None else schema, *statements)
        found = follows(rules, statement)
        self.assertEqual(None if found is None else len(found), expected)
        if found is not None:
            self.assertIsInstance(found, Database)
            self.assertTrue(rules.keeps(found))
            self.assertFalse(statement(found))

    def test_totals(self):
        for statements, statement, expected in [
            ([], Total("item", 0, 2), 3), ([], Total("item", 1, 2), 0), ([Total("item", 1, 2)], Total("item", 1, 2), None),
            ([Total("item", 1, 2)], Total("item", 0, 3), None), ([Total("item", 1, 2)], Total("item", 2, 3), 1),
            ([Total("item", 1, 2)], Total("item", 0, 1), 2), ([Total("item", 1, None)], Total("item", 1, 3), 4),
            ([Total("item", 2, None)], Total("item", 1, None), None), ([Total("item", 1, None)], Total("item", 2, None), 1),
            ([Total("item", 0, 1)], Total("item", 0, 1, where=BIG), None),
            ([Total("item", 0, 1, where=BIG)], Total("item", 0, 1), 2),
            ([Total("item", 1, 1, where=BIG)], Total("item", 1, None), None),
        ]:
            self.check(statements, statement, expected)

    def test_rules(self):
        rules = [Rule.key("item", "id"), OWNED, FEW, Total("shop", 0, 2)]
        for statements, statement, expected in [
            ([], OWNED, 1), ([OWNED], OWNED, None), ([OWNED], Rule("item", "shop", [("at", "id")], 1, 1), None),
            (rules, Total("item", 0, 2, where=BIG), None), (rules, Rule.at_most("shop", "item", [("id", "at")], 1), 3),
            ([], Rule.key("shop", "id"), None), ([], Rule.key("item", "id"), 2), ([], Rule.key("item", "id", "at"), 2),
            ([Rule.key("item", "id")], Rule.key("item", "id", "at"), None),
            ([Rule.key("item", "id", "at")], Rule.key("item", "id"), 2),
            ([FEW], Rule.at_most("shop", "item", [("id", "at")], 2, other_where=BIG), None),
            ([Total("item", 0, 1)], FEW, None), ([], Rule("item", "shop", [("at", "id")], 2, None), 1),
            ([OWNED], Rule("item", "shop", [], 1, None), None), ([], Rule.none("item", "shop", []), 2),
            ([Total("item", 0, 0)], Rule("item", "shop", [], 2, 2), None),
        ]:
            self.check(statements, statement, expected)

    def test_short_or_long_whichever_has_fewer_rows(self):
        rule = Rule("item", "shop", [], 2, 2)
        self.check([], rule, 1)
        self.check([Rule("item", "shop", [], 2, None)], rule, 4)
        self.check([Total("shop", 2, None)], rule, 4)
        self.check([Total("shop", 0, 1)], rule, 1)
        self.check([Rule("item", "shop", [], 2, 2)], rule, None)
        self.check([], Total("item", 2, 3), 0)
        self.check([Total("item", 2, None)], Total("item", 2, 3), 4)

    def test_rules_that_nothing_keeps(self):
        for statement in (OWNED, Total("item", 0, 0), Rule.none("item", "item", [])):
            self.check([Total("shop", 2, None), Total("shop", 0, 1)], statement, None)

    def test_over_three_tables(self):
        up = [Rule.reference("a", "b", [("up", "id")]), Rule.reference("b", "c", [("up", "id")])]
        self.check(up, Rule("a", "c", [], 1, None), None, three())
        self.check(up, Rule("a", "c", [], 2, None), 3, three())
        self.check(up[:1], Rule("a", "c", [], 1, None), 2, three())
        self.check([*up, Total("c", 0, 0)], Total("a", 0, 0), None, three())

    def test_a_new_database_each_time(self):
        one = follows(Rules(town()), OWNED)
        one.put("shop", ("zz",))
        self.assertEqual(len(follows(Rules(town()), OWNED)), 1)

    def test_misfit(self):
        wide = Rules(three(), *two_for_each("ab bc ac"))
        for value in [*any_values(), Statement(), Rule, Total("z", 0, 1), Total("a", 0, 1, where={"k": ["p"]}),
                      Short(Total("a", 1, None)), three(), wide]:
            with self.assertRaises(Misfit) as caught:
                follows(wide, value)
            self.assertEqual(caught.exception.index, 0)

    def test_too_many(self):
        wide = Rules(three(), *two_for_each("ab bc ac"), Total("a", 1, 2))
        self.assertEqual(wanted(wide), 9)
        self.assertEqual(wanted(wide, Short(Total("a", 1, 1))), 9)
        self.assertIsNone(follows(wide, Total("a", 1, None)))
        self.assertEqual(wanted(wide, Long(Rule("b", "c", [], 0, 3))), 16)
        self.assertIsNotNone(follows(wide, Rule("b", "c", [], 0, 3)))
        for statement in (Total("a", 0, 1), Total("a", 1, 1), Rule.reference("a", "c", []), Rule("a", "c", [], 1, 1),
                          Rule("c", "b", [], 0, 3)):
            with self.assertRaises(TooMany) as caught:
                follows(wide, statement)
            self.assertEqual(caught.exception.limit, 16)
            with self.assertRaises(TooMany):
                covers(wide, Rules(three(), statement))

    def test_small_rules_of_all_kinds(self):
        """Held against all databases of small schemas."""
        tried = 0
        for number in range(250):
            maker = Maker(random.Random(number))
            schema = maker.schema()
            rules, statement = maker.rules(schema), maker.statement(schema)
            names = next((some for some in ("xyz", "xy", "x") if len(all_rows(schema, some)) <= 8), None)
            try:
                found = follows(rules, statement)
            except TooMany:
                continue
            if names is None:
                continue
            tried += 1
            with self.subTest(number):
                most = None if found is None else len(found) - 1
                self.assertFalse([1 for each in databases(schema, names, most)
                                  if rules.keeps(each) and not statement(each)])
                if found is not None:
                    self.assertTrue(rules.keeps(found) and not statement(found))
        self.assertGreater(tried, 100)


class CoversTest(unittest.TestCase):
    def test_ordinary(self):
        rules = Rules(town(), Rule.key("item", "id"), OWNED, FEW, Total("shop", 0, 2))
        cases = [
            ([], True), ([OWNED], True), ([FEW, OWNED], True), ([Total("item", 0, 2, where=BIG)], True),
            ([Total("item", 0, 2)], False), ([OWNED, Total("item", 0, 2), FEW], False),
            ([Total("item", 0, 2), OWNED], False), ([OWNED, Total("item", 0, 2)], False),
        ]
        for others, expected in cases:
            self.assertIs(covers(rules, Rules(town(), *others)), expected)
        self.assertIs(covers(Rules(town()), Rules(town())), True)
        self.assertIs(covers(Rules(town()), rules), False)
        self.assertIs(covers(Rules(town()), Rules(town(), Rule.key("shop", "id"))), True)

    def test_other_schema_comes_first(self):
        wide = Rules(three(), *two_for_each("ab bc ac"))
        for one, other in [(wide, Rules(town(), Total("item", 0, 3))), (Rules(town()), wide), (wide, Rules(town()))]:
            with self.assertRaises(OtherSchema):
                covers(one, other)

    def test_too_many_comes_ahead_of_an_answer(self):
        wide = Rules(three(), *two_for_each("ab bc ac"))
        for others in ([Total("a", 0, 1)], [Total("c", 0, 1), Total("a", 0, 1)], [Total("a", 0, 1), Total("c", 0, 1)]):
            with self.assertRaises(TooMany):
                covers(wide, Rules(three(), *others))
        self.assertIs(covers(wide, Rules(three(), Total("c", 0, 1))), False)


class NeedlessTest(unittest.TestCase):
    """needless and core."""

    def check(self, statements, expected, left):
        rules = Rules(town(), *statements)
        told, rest = needless(rules), core(rules)
        self.assertEqual(told, expected)
        self.assertIs(type(told), tuple)
        self.assertEqual(rest, Rules(town(), *[statements[index] for index in left]))
        self.assertEqual(rules, Rules(town(), *statements))

    def test_no_statements(self):
        self.check([], (), [])

    def test_one_statement(self):
        self.check([OWNED], (), [0])
        self.check([Rule.key("shop", "id")], (0,), [])

    def test_equal_statements(self):
        self.check([OWNED, OWNED], (0, 1), [0])
        self.check([OWNED, FEW, OWNED, OWNED], (0, 2, 3), [0, 1])

    def test_from_the_last_one_to_the_first(self):
        one, two = Total("item", 0, 1), Total("item", 0, 2)
        self.check([one, two], (1,), [0])
        self.check([two, one], (0,), [1])
        self.check([two, one, two, one], (0, 1, 2, 3), [1])
        big, small = Total("item", 0, 0, where=BIG), Total("item", 0, 0, where={"kind": ["small"]})
        # Both together are the third one, and it is both: only the last can be left out at first.
        self.check([big, small, Total("item", 0, 0)], (0, 1, 2), [0, 1])
        self.check([Total("item", 0, 0), big, small], (0, 1, 2), [0])
        self.check([big, Total("item", 0, 0), small], (0, 1, 2), [1])

    def test_what_follows_from_several(self):
        most_two = Total("item", 0, 2, where=BIG)
        statements = [Rule.key("item", "id"), OWNED, FEW, Total("shop", 0, 2), most_two]
        self.check(statements, (4,), [0, 1, 2, 3])
        self.check(statements[1:], (3,), [0, 1, 2])
        self.check(statements[::-1], (0,), [1, 2, 3, 4])

    def test_rules_that_nothing_keeps(self):
        one, two = Total("shop", 2, None), Total("shop", 0, 1)
        self.check([one, two, OWNED], (2,), [0, 1])
        self.check([OWNED, one, two, one], (0, 1, 3), [1, 2])

    def test_too_many(self):
        wide = Rules(three(), *two_for_each("ab bc ac"), Total("a", 0, 3))
        # Beside all rules, though not without those from a.
        for call in (needless, core):
            with self.assertRaises(TooMany) as caught:
                call(wide)
            self.assertEqual(caught.exception.limit, 16)
        last = Rules(three(), Total("a", 0, 1), *two_for_each("ab bc"), Rule("a", "c", [], 1, None))
        self.assertEqual(wanted(last, Long(Total("a", 0, 1))), 16)
        self.assertEqual(needless(last), (3,))
        self.assertEqual(core(last), Rules(three(), *last.statements[:3]))
        with self.assertRaises(TooMany):
            needless(last + Rules(three(), Total("c", 1, None)))
        with self.assertRaises(TooMany):
            core(Rules(three(), *two_for_each("ab bc"), Total("b", 2, None), Total("b", 2, None), Total("a", 0, 0)))


class BarrenTest(unittest.TestCase):
    def test_ordinary(self):
        cases = [
            ([], ()), ([OWNED, FEW], ()), ([OWNED, Total("shop", 0, 0)], ("item", "shop")), ([Total("shop", 0, 0)], ("shop",)),
            ([Total("item", 0, 0)], ("item",)), ([Total("item", 0, 0, where=BIG)], ()),
            ([Rule.none("item", "item", [])], ("item",)), ([Rule.none("shop", "shop", [("id", "id")])], ("shop",)),
            ([Rule("item", "shop", [("at", "id")], 2, 2)], ("item",)),
            ([Total("shop", 2, None), Total("shop", 0, 1)], ("item", "shop")),
            ([Rule.none("item", "shop", []), Total("shop", 1, None)], ("item",)),
        ]
        for statements, expected in cases:
            told = barren(Rules(town(), *statements))
            self.assertEqual(told, expected)
            self.assertIs(type(told), tuple)

    def test_in_the_order_of_the_schema(self):
        schema = Schema(Table("z", "id"), Table("a", "id"), Table("m", "id"))
        empty = [Total(name, 0, 0) for name in ("m", "a", "z")]
        self.assertEqual(barren(Rules(schema, *empty)), ("z", "a", "m"))
        self.assertEqual(barren(Rules(schema, *empty[::2])), ("z", "m"))

    def test_too_many(self):
        wide = two_for_each("ab bc ac ac")
        self.assertEqual(wanted(Rules(three(), *wide), Counted("a", {}, 1, None)), 11)
        self.assertEqual(barren(Rules(three(), *wide)), ())
        self.assertEqual(barren(Rules(three(), *wide[:3], Rule("a", "b", [], 2, 3), Total("c", 1, None))), ())
        for statements in ([*wide, Total("b", 2, None)], [Total("a", 1, None), *wide[:2], Rule.none("c", "c", []), Total("a", 1, None)]):
            with self.assertRaises(TooMany) as caught:
                barren(Rules(three(), *statements))
            self.assertEqual(caught.exception.limit, 16)
