"""What is possible [32], and which numbers of rows are [36]."""

import random
import unittest

from onlylooks.databases import Database
from onlylooks.errors import InvalidFact, TooMany
from onlylooks.facts import Counted, Long, Missing, Present, Short
from onlylooks.possible import numbers, possible, wanted
from onlylooks.rules import Rules
from onlylooks.statements import Rule, Total
from onlylooks.tables import Schema, Table
from tests.anything import any_values
from tests.towns import town
from tests.worlds import Maker, all_rows, fewest, holds

BIG = {"kind": ["big"]}
FEW = Rule.at_most("shop", "item", [("id", "at")], 1, other_where=BIG)
OWNED = Rule.reference("item", "shop", [("at", "id")])


def marked():
    return Schema(Table("t", ("a", ["p", "q"]), ("b", ["x", "z", "y"])), Table("u", ("c", ["p", "q"]), "d"))


def chain():
    return Schema(Table("a", "id", "up"), Table("b", "id", "up"), Table("c", "id", ("k", ["p", "q"])))


def up(table, other, least=1, most=None, **more):
    return Rule(table, other, [("up", "id")], least, most, **more)


TOWN = [
    ("nothing", [], [], 0),
    ("one row", [], [Present("item", ("a", "x", "big"))], 1),
    ("a row twice", [], [Present("item", ("a", "x", "big"))] * 2, 1),
    ("a row and its lack", [], [Present("shop", ("x",)), Missing("shop", ("x",))], None),
    ("a row with its shop", [OWNED], [Present("item", ("a", "x", "big"))], 2),
    ("its shop is missing", [OWNED], [Present("item", ("a", "x", "big")), Missing("shop", ("x",))], None),
    ("one shop for both", [OWNED], [Counted("item", {}, 2, None)], 3),
    ("a shop for each", [OWNED, FEW], [Counted("item", {"kind": "big"}, 2, None)], 4),
    ("no shop for each", [OWNED, FEW, Total("shop", 0, 1)], [Counted("item", {"kind": "big"}, 2, None)], None),
    ("a small one beside", [OWNED, FEW, Total("shop", 0, 1)], [Counted("item", {}, 2, None), Long(Total("item", 0, 1))], 3),
    ("one row for two wants", [], [Counted("item", {"id": "a"}, 1, None), Counted("item", {"at": "x"}, 1, None)], 1),
    ("one row for three wants", [],
     [Counted("item", {"id": "a"}, 1, None), Counted("item", {"at": "x"}, 1, None), Counted("item", {"kind": "big"}, 1, None)], 1),
    ("two rows for two wants", [],
     [Counted("item", {"id": "a"}, 1, None), Counted("item", {"id": "b"}, 1, None)], 2),
    ("one row forbidden", [], [Counted("item", {"id": "a"}, 1, None), Counted("item", {"at": "x"}, 1, None),
                               Missing("item", ("a", "x", "big")), Missing("item", ("a", "x", "small"))], 2),
    ("one shop by a Total", [OWNED, Total("shop", 1, 1)],
     [Counted("item", {"id": "a"}, 1, None), Counted("item", {"id": "b"}, 1, None)], 3),
    ("two shops are too many", [OWNED, Total("shop", 1, 1)],
     [Counted("item", {"at": "a"}, 1, None), Counted("item", {"at": "b"}, 1, None)], None),
    ("a key", [Rule.key("item", "id")], [Counted("item", {"id": "a"}, 2, None)], None),
    ("a key of two columns", [Rule.key("item", "id", "at")], [Counted("item", {"id": "a"}, 2, None)], 2),
    ("a key of marks", [Rule.key("item", "kind")], [Counted("item", {}, 3, None)], None),
    ("a key of marks, just full", [Rule.key("item", "kind")], [Counted("item", {}, 2, None)], 2),
    ("marks fill up", [], [Counted("item", {"id": "a", "at": "x"}, 3, None)], None),
    ("marks fill up just", [], [Counted("item", {"id": "a", "at": "x"}, 2, None)], 2),
    ("one shop with a name", [], [Counted("shop", {"id": "x"}, 2, None)], None),
    ("a Total from below", [Total("item", 2, None, where=BIG), OWNED], [], 3),
    ("Totals against one another", [Total("item", 2, None), Total("item", 0, 1)], [], None),
    ("Totals beside one another", [Total("item", 2, None), Total("item", 0, 1, where=BIG)], [], 2),
    ("a Counted against a Total", [Total("item", 0, 1)], [Counted("item", {"at": "x"}, 2, 2)], None),
    ("facts against one another", [], [Counted("item", {}, 1, 1), Counted("item", {"at": "x"}, 2, None)], None),
    ("facts that just agree", [], [Counted("item", {}, 2, 2), Counted("item", {"at": "x"}, 2, None)], 2),
    ("none of all", [], [Counted("item", {}, 0, 0), Present("item", ("a", "x", "big"))], None),
    ("neither of both marks", [], [Counted("item", {"kind": "big"}, 0, 0), Counted("item", {"kind": "small"}, 0, 0),
                                   Counted("item", {}, 1, None)], None),
    ("a Short", [], [Short(OWNED)], 1),
    ("a Short against its rule", [OWNED], [Short(OWNED)], None),
    ("a Short of two", [OWNED], [Short(Rule("item", "shop", [("at", "id")], 2, None))], 2),
    ("a Long", [], [Long(FEW)], 3),
    ("a Long against its rule", [FEW], [Long(FEW)], None),
    ("a Long of a Total", [], [Long(Total("shop", 0, 3))], 4),
    ("a Long of a Total against it", [Total("shop", 0, 3)], [Long(Total("shop", 0, 3))], None),
    ("a Short of a Total", [], [Short(Total("shop", 2, None)), Present("shop", ("x",))], 1),
    ("a Short of a Total against it", [], [Short(Total("shop", 1, None)), Present("shop", ("x",))], None),
    ("a Short of a Total with a where", [], [Short(Total("item", 1, 1, where=BIG)), Counted("item", {}, 2, 2)], 2),
    ("Short and Long", [], [Short(OWNED), Long(FEW)], 4),
    ("Short at a row that is there", [], [Short(OWNED), Present("item", ("a", "x", "big"))], 1),
    ("Short at another row", [], [Short(OWNED), Present("item", ("a", "x", "big")), Present("shop", ("x",))], 3),
    ("Long at a row that is there", [], [Long(Rule.none("item", "shop", [("at", "id")])), Present("shop", ("x",))], 2),
]

MARKS = [
    ("a full table", [], [Counted("t", {}, 6, None)], 6),
    ("more than full", [], [Counted("t", {}, 7, None)], None),
    ("full with a mark", [], [Counted("t", {"a": "p"}, 3, 3)], 3),
    ("more than full with a mark", [], [Counted("t", {"a": ["p", "p"]}, 4, None)], None),
    ("full but for one", [], [Counted("t", {}, 6, None), Missing("t", ("p", "x"))], None),
    ("five of six", [], [Counted("t", {}, 5, None), Missing("t", ("p", "x"))], 5),
    ("a key", [Rule.key("t", "b")], [Counted("t", {}, 3, None)], 3),
    ("a key, and one more", [Rule.key("t", "b")], [Counted("t", {}, 4, None)], None),
    ("two keys", [Rule.key("t", "b"), Rule.key("t", "a")], [Counted("t", {}, 2, None)], 2),
    ("two keys, and one more", [Rule.key("t", "b"), Rule.key("t", "a")], [Counted("t", {}, 3, None)], None),
    ("pairs of marks", [Rule.reference("t", "u", [("a", "c")])], [Counted("t", {}, 2, None)], 3),
    ("pairs of both marks", [Rule.reference("t", "u", [("a", "c")])], [Counted("t", {}, 4, None)], 6),
    ("no pair for a mark", [Rule.none("t", "u", [("a", "c")])],
     [Counted("t", {}, 4, None), Counted("u", {}, 1, None)], None),
    ("pairs of marks leave one", [Rule.none("t", "u", [("a", "c")])],
     [Counted("t", {}, 3, None), Counted("u", {}, 1, None)], 4),
    ("two rows for each mark", [Rule.exactly("t", "u", [("a", "c")], 2)],
     [Counted("t", {"a": "p"}, 1, None), Counted("t", {"a": "q"}, 1, None)], 6),
    ("without pairs", [Rule("t", "u", [], 2, 2)], [Counted("t", {}, 3, None)], 5),
    ("without pairs, too many", [Rule("t", "u", [], 2, 2)], [Counted("t", {}, 1, None), Counted("u", {}, 3, None)], None),
    ("without pairs, with no row", [Rule("t", "u", [], 2, 2)], [Counted("u", {}, 3, None)], 3),
    ("without pairs, where", [Rule.none("t", "u", [], where={"a": ["p"]}, other_where={"c": ["q"]})],
     [Counted("t", {"a": "p"}, 1, None), Counted("u", {"c": "q"}, 1, None)], None),
    ("without pairs, beside where", [Rule.none("t", "u", [], where={"a": ["p"]}, other_where={"c": ["q"]})],
     [Counted("t", {"a": "q"}, 1, None), Counted("t", {"b": "x"}, 1, None), Counted("u", {"c": "q"}, 1, None)], 2),
    ("a mark and other_where that clash", [Rule.reference("t", "u", [("a", "c")]), Rule.none("t", "u", [], other_where={"c": ["p"]})],
     [Counted("t", {"a": "p"}, 1, None)], None),
    ("a where of two words", [Total("t", 2, None, where={"b": ["x", "z"]}), Rule.key("t", "a")], [], 2),
]

CHAIN = [
    ("three tables", [up("a", "b"), up("b", "c")], [Counted("a", {}, 1, None)], 3),
    ("three tables, one parent", [up("a", "b"), up("b", "c")], [Counted("a", {}, 3, None)], 5),
    ("three tables, two parents", [up("a", "b"), up("b", "c"), Rule.at_most("b", "a", [("id", "up")], 1)],
     [Counted("a", {}, 2, None)], 5),
    ("three tables, all apart", [up("a", "b", 1, 1), up("b", "c"), Rule.at_most("b", "a", [("id", "up")], 1),
                                 Rule.at_most("c", "b", [("id", "up")], 1), Rule.key("c", "id")],
     [Counted("a", {}, 2, None)], 6),
    ("the last one is barred", [up("a", "b"), up("b", "c", 2, 2), Total("c", 0, 1)], [Counted("a", {}, 1, None)], None),
    ("both marks of the last one", [up("a", "b"), up("b", "c", 2, 2)], [Counted("a", {}, 1, None)], 4),
    ("one mark of the last one", [up("b", "c", 2, 2, other_where={"k": ["p"]})], [Counted("b", {}, 1, None)], None),
    ("up to itself", [Rule("a", "a", [("id", "up")], 0, 0)], [Counted("a", {}, 2, None)], 2),
    ("no row is its own", [Rule.none("a", "a", [("id", "up")])], [Present("a", ("x", "x"))], None),
    ("a row counts for itself", [], [Long(Rule.none("a", "a", [("id", "up")]))], 1),
    ("two below one", [], [Long(Rule.at_most("a", "a", [("id", "up")], 1))], 2),
    ("two below one with a key", [Rule.key("a", "id")], [Long(Rule.at_most("a", "a", [("id", "up")], 1))], 2),
    ("two below one, not itself", [Rule.none("a", "b", [("id", "id")]), Rule.key("a", "id")],
     [Long(Rule.at_most("a", "a", [("id", "up")], 1)), Counted("b", {}, 2, None)], 4),
    ("crosswise pairs", [], [Long(Rule.none("a", "a", [("id", "up"), ("up", "id")])), Missing("a", ("x", "x"))], 1),
    ("crosswise pairs of two rows", [Rule.none("a", "a", [("id", "up")], )], [Long(Rule.none("a", "b", [("id", "up"), ("up", "id")]))], 2),
    ("no rules of a table with itself", [Rule("b", "a", [("id", "id"), ("up", "up")], 1, 1)], [Counted("b", {}, 2, None)], 4),
]


class PossibleTest(unittest.TestCase):
    def check(self, schema, cases):
        for name, statements, facts, expected in cases:
            with self.subTest(name):
                rules = Rules(schema, *statements)
                found = possible(rules, *facts)
                self.assertEqual(None if found is None else len(found), expected)
                if found is not None:
                    self.assertIsInstance(found, Database)
                    self.assertEqual(found.schema, schema)
                    self.assertTrue(holds(found, rules, facts))
                    self.assertLessEqual(len(found), wanted(rules, *facts))

    def test_the_town(self):
        self.check(town(), TOWN)

    def test_marks(self):
        self.check(marked(), MARKS)

    def test_three_tables(self):
        self.check(chain(), CHAIN)

    def test_what_is_told_has_the_fewest_rows(self):
        """Held against all databases with up to so many rows, names that stand in no fact among them."""
        for schema, cases, names in [(town(), TOWN, ["a", "x", "m"]), (marked(), MARKS, ["m", "n"]),
                                     (chain(), CHAIN, ["x", "m", "n"])]:
            for name, statements, facts, expected in cases:
                with self.subTest(name):
                    below = 2 if expected is None else min(expected - 1, 2)
                    self.assertIsNone(fewest(Rules(schema, *statements), facts, names, below))

    def test_small_problems_of_all_kinds(self):
        """Held against all databases of small schemas, with names that stand in no fact."""
        tried, none = 0, 0
        for number in range(400):
            maker = Maker(random.Random(number))
            schema = maker.schema()
            rules = maker.rules(schema)
            facts = [maker.fact(schema, ["b", "c"]) for _ in range(maker.source.randint(0, 3))]
            names = next((some for some in (["b", "c", "x", "y"], ["b", "c", "x"], ["b", "x"])
                          if len(all_rows(schema, some)) <= 10), None)
            if names is None or wanted(rules, *facts) > 16:
                continue
            with self.subTest(number):
                found = possible(rules, *facts)
                most = None if found is None else len(found) - 1
                self.assertIsNone(fewest(rules, facts, names, most))
                self.assertTrue(found is None or holds(found, rules, facts))
                tried, none = tried + 1, none + (found is None)
        self.assertGreater(tried, 150)
        self.assertGreater(none, 40)

    def test_names_are_words_that_stand_nowhere_else(self):
        letters = [Missing("shop", (letter,)) for letter in "abcdefghijklmnopqrstuvwxyz"]
        pairs = [Missing("shop", (one + two,)) for one in "ab" for two in "abcdefghijklmnopqrstuvwxyz"]
        for gone in (letters, letters[:25], [*letters, *pairs]):
            found = possible(Rules(town()), *gone, Counted("shop", {}, 3, 3))
            self.assertEqual(len(found), 3)
            self.assertTrue(all(fact(found) for fact in gone))
        found = possible(Rules(town()), Counted("shop", {}, 16, None))
        self.assertEqual(len(found["shop"]), 16)
        facts = [Counted("shop", {"id": "a"}, 0, 0), Counted("item", {"at": "b"}, 0, 0), Counted("item", {"id": "c"}, 0, 0),
                 Counted("shop", {}, 2, 2), Counted("item", {}, 2, 2)]
        found = possible(Rules(town()), *facts)
        self.assertTrue(all(fact(found) for fact in facts))

    def test_a_new_database_each_time(self):
        rules, facts = Rules(town(), OWNED), [Counted("item", {}, 2, None)]
        one = possible(rules, *facts)
        other = possible(rules, *facts)
        self.assertEqual(one, other)
        one.put("shop", ("zz",))
        self.assertNotEqual(one, other)
        self.assertEqual(possible(rules, *facts), other)

    def test_facts_and_rules_are_not_changed(self):
        words = {"kind": ["small", "big"], "at": "x"}
        rules, fact = Rules(town(), OWNED, FEW), Counted("item", words, 2, 3)
        possible(rules, fact, Long(FEW), Missing("shop", ("y",)))
        self.assertEqual(words, {"kind": ["small", "big"], "at": "x"})
        self.assertEqual(fact, Counted("item", {"kind": ["small", "big"], "at": "x"}, 2, 3))
        self.assertEqual(rules, Rules(town(), OWNED, FEW))

    def test_sixteen_rows(self):
        """What comes to 16 rows is told, and that less is not enough."""
        schema = town()
        keys = [Rule.key("item", "id"), OWNED, Rule.at_most("shop", "item", [("id", "at")], 3)]
        self.assertEqual(len(possible(Rules(schema, *keys), Counted("item", {}, 8, None))), 11)
        self.assertIsNone(possible(Rules(schema, *keys, Total("shop", 0, 2)), Counted("item", {}, 8, None)))
        self.assertEqual(len(possible(Rules(schema), Counted("item", {}, 16, None))), 16)
        self.assertIsNone(possible(Rules(schema, Total("item", 0, 3)), Counted("item", {}, 16, None)))

    def test_marks_that_nothing_tells_apart(self):
        marks = [(name, ["p", "q", "r"]) for name in ("a", "b", "c")]
        schema = Schema(Table("t", *marks))
        rules = Rules(schema, Rule.at_most("t", "t", [("a", "a")], 2))
        self.assertEqual(len(possible(rules, Counted("t", {}, 6, None))), 6)
        self.assertIsNone(possible(rules, Counted("t", {}, 7, None)))
        self.assertIsNone(possible(rules, Counted("t", {"a": ["p", "q"]}, 5, None)))
        given = [Present("t", ("q", "r", "r")), Present("t", ("q", "p", "r")), Missing("t", ("p", "p", "p"))]
        found = possible(rules, *given, Counted("t", {}, 6, None))
        self.assertEqual(len(found), 6)
        self.assertTrue(all(fact(found) for fact in given))


class NumbersTest(unittest.TestCase):
    def test_ordinary(self):
        rules = Rules(town(), OWNED, FEW, Total("shop", 0, 2))
        self.assertEqual(numbers(rules, "item", {"kind": "big"}, 4), (0, 1, 2))
        self.assertEqual(numbers(rules, "item", {"kind": "big"}, 2), (0, 1, 2))
        self.assertEqual(numbers(rules, "item", {"kind": "big"}, 1), (0, 1))
        self.assertEqual(numbers(rules, "item", {"kind": "small"}, 4), (0, 1, 2, 3, 4))
        self.assertEqual(numbers(rules, "item", {"kind": ["big", "small"]}, 3), (0, 1, 2, 3))
        self.assertIs(type(numbers(rules, "item", {}, 3)), tuple)

    def test_a_limit_of_0(self):
        rules = Rules(town())
        self.assertEqual(numbers(rules, "item", {}, 0), (0,))
        self.assertEqual(numbers(rules, "item", {}, 0, Counted("item", {}, 3, 3)), (0,))
        self.assertEqual(numbers(rules, "item", {}, 0, Counted("item", {}, 3, 3), Counted("item", {}, 0, 2)), ())
        self.assertEqual(numbers(Rules(town(), Total("shop", 2, 2), Total("shop", 0, 1)), "item", {}, 0), ())

    def test_with_facts(self):
        rules = Rules(town(), OWNED)
        facts = [Counted("item", {}, 1, 2), Present("item", ("a", "x", "big"))]
        self.assertEqual(numbers(rules, "item", {"kind": "big"}, 5, *facts), (1, 2))
        self.assertEqual(numbers(rules, "item", {"at": "y"}, 5, *facts), (0, 1))
        self.assertEqual(numbers(rules, "shop", {"id": "x"}, 2, *facts), (1,))
        self.assertEqual(numbers(rules, "shop", {}, 2, *facts), (1, 2))

    def test_gaps(self):
        box, ball = Table("box", "id", ("lid", ["open", "shut"])), Table("ball", "id", "box")
        some = [Rule.none("box", "ball", [("id", "box")], where={"lid": ["shut"]}),
                Rule.exactly("box", "ball", [("id", "box")], 2, where={"lid": ["open"]})]
        rules, one = Rules(Schema(box, ball), *some), Counted("box", {"id": "x"}, 1, 1)
        self.assertEqual(numbers(rules, "ball", {"box": "x"}, 3, one), (0, 2))
        self.assertEqual(numbers(rules, "ball", {"box": "x"}, 2, one), (0, 2))
        self.assertEqual(numbers(rules, "ball", {"box": "x"}, 1, one), (0, 1))
        self.assertEqual(numbers(rules, "ball", {"box": "x"}, 3), (0, 1, 2, 3))

    def test_the_limit_stands_for_more(self):
        rules = Rules(town(), Total("shop", 2, 2))
        for limit, expected in [(0, (0,)), (1, (1,)), (2, (2,)), (3, (2,)), (4, (2,))]:
            self.assertEqual(numbers(rules, "shop", {}, limit), expected)

    def invalid(self, index, *told):
        with self.assertRaises(InvalidFact) as caught:
            numbers(Rules(town()), *told)
        self.assertEqual(caught.exception.index, index)

    def test_invalid_arguments(self):
        wrong = Present("zz", ())
        for value in any_values():
            self.invalid(0, value, {}, 2, wrong)
            if value != {}:
                self.invalid(0, "item", value, 2, wrong)
            if type(value) is not int or value < 0:
                self.invalid(0, "item", {}, value, wrong)
            self.invalid(1, "item", {}, 99, value, value)
            self.invalid(2, "item", {}, 99, Present("shop", ("x",)), value)
        self.invalid(0, "item", {"id": ["a"]}, 2)
        self.invalid(0, "item", {"kind": "old"}, 2)
        self.invalid(0, "item", {"kind": []}, 2)

    def test_too_many(self):
        self.assertEqual(numbers(Rules(town()), "item", {"id": "a", "at": "x"}, 16), (0, 1, 2))
        for limit, facts in [(17, []), (10 ** 59, []), (16, [Present("shop", ("x",))])]:
            with self.assertRaises(TooMany) as caught:
                numbers(Rules(town()), "item", {"id": "a", "at": "x"}, limit, *facts)
            self.assertEqual(caught.exception.limit, 16)
        with self.assertRaises(TooMany):
            numbers(Rules(town(), OWNED), "item", {}, 9)
