import unittest

from onlylooks.databases import Database
from onlylooks.errors import OtherSchema
from onlylooks.facts import Counted, Fact, Long, Missing, Present, Short
from onlylooks.statements import Rule, Total
from onlylooks.tables import Schema, Table
from tests.anything import any_values, changed, is_key, is_plain
from tests.towns import filled, house, town

A_ROW = ("a", "x", "small")


def made(*values):
    """A fact of each kind, as many as take so many values."""
    kinds = {1: [Short, Long], 2: [Present, Missing], 4: [Counted]}
    return [kind(*values) for kind in kinds[len(values)]]


def told(fact):
    """The properties of a fact, by their names."""
    if isinstance(fact, (Short, Long)):
        return {"statement": fact.statement}
    if isinstance(fact, Counted):
        return {"table": fact.table, "words": fact.words, "least": fact.least, "most": fact.most}
    return {"table": fact.table, "row": fact.row}


def at_columns(words):
    """The words that a Counted tells for any value: tuples for lists at columns."""
    if not isinstance(words, dict):
        return words
    return {key: tuple(words[key]) if isinstance(words[key], list) else words[key] for key in words}


class FactsTest(unittest.TestCase):
    def is_of(self, fact, schema=None):
        """Whether a fact may be asked of databases of a schema."""
        try:
            answer = fact(Database(town() if schema is None else schema))
        except OtherSchema:
            return False
        self.assertIn(answer, [True, False])
        self.assertIs(type(answer), bool)
        return True


class PropertiesTest(FactsTest):
    """The properties of [30], for arguments of any kind."""

    def facts(self, value):
        """Facts with a value at each argument."""
        return [
            *made(value), *made(value, A_ROW), *made("item", value), *made(value, value),
            *made(value, {}, 0, None), *made("item", value, 0, None), *made("item", {}, value, None),
            *made("item", {}, 0, value), *made(value, value, value, value),
            *made("item", {"id": value}, 0, None),
        ]

    def test_subclasses(self):
        for kind in (Present, Missing, Counted, Short, Long):
            self.assertEqual(kind.__bases__, (Fact,))

    def test_any_values(self):
        for value in any_values():
            with self.subTest(value=value):
                words, listed = at_columns(value), at_columns({"id": value})
                expected = [
                    (value,), (value,), (value, A_ROW), (value, A_ROW), ("item", value),
                    ("item", value), (value, value), (value, value), (value, {}, 0, None),
                    ("item", words, 0, None), ("item", {}, value, None), ("item", {}, 0, value),
                    (value, words, value, value), ("item", listed, 0, None),
                ]
                found = [tuple(told(fact).values()) for fact in self.facts(value)]
                self.assertEqual(repr(found), repr(expected))
                self.assertTrue(is_plain(found))

    def test_by_name(self):
        self.assertEqual(Present(table="t", row=("a",)), Present("t", ("a",)))
        self.assertEqual(Missing(row=("a",), table="t"), Missing("t", ("a",)))
        by_name = Counted(most=None, least=1, words={"a": "b"}, table="t")
        self.assertEqual(by_name, Counted("t", {"a": "b"}, 1, None))
        self.assertEqual(Short(statement=1), Short(1))
        self.assertEqual(Long(statement=Total("t", 1, 2)).statement, Total("t", 1, 2))

    def test_what_is_handed_in_may_change(self):
        for value in any_values():
            facts, before = self.facts(value), self.facts(value)
            for fact, same in zip(facts, before):
                expected = repr(told(same))
                changed(value)
                with self.subTest(expected):
                    self.assertEqual(repr(told(fact)), expected)

    def test_what_is_returned_may_change(self):
        for value in any_values():
            for fact in self.facts(value):
                expected = repr(told(fact))
                for each in told(fact).values():
                    changed(each)
                with self.subTest(expected):
                    self.assertEqual(repr(told(fact)), expected)

    def test_arguments_are_not_changed(self):
        for value, same in zip(any_values(), any_values()):
            self.facts(value)
            self.assertEqual(repr(value), repr(same))

    def test_lists_at_columns_are_tuples(self):
        words = {"kind": ["small", "big"], "id": "a", "at": ("x",)}
        fact = Counted("item", words, 0, None)
        self.assertEqual(fact.words, {"kind": ("small", "big"), "id": "a", "at": ("x",)})
        self.assertEqual(words, {"kind": ["small", "big"], "id": "a", "at": ("x",)})
        self.assertEqual(Counted("item", {"id": [[1], {"b": []}]}, 0, 1).words,
                         {"id": ([1], {"b": []})})
        self.assertEqual(Counted("item", [["id"]], 0, 1).words, [["id"]])

    def test_keys_ascend(self):
        words = {"kind": "big", "id": "a", "at": "x"}
        self.assertEqual(list(Counted("item", words, 0, 1).words), ["at", "id", "kind"])
        self.assertEqual(list(Present("item", {2: 0, 1: 0}).row), [1, 2])


class OfSchemaTest(FactsTest):
    """What is a fact of a schema, and what is not [30]."""

    def check(self, is_right, *facts):
        for fact in facts:
            with self.subTest(fact=told(fact)):
                self.assertIs(self.is_of(fact), is_right)

    def test_tables(self):
        self.check(True, *made("item", A_ROW), *made("shop", ("x",)), *made("shop", {}, 0, 1))
        for value in [*any_values(), "items", "id", "a"]:
            self.check(False, *made(value, A_ROW), *made(value, ("x",)), *made(value, {}, 0, 1))

    def test_rows(self):
        self.check(True, *made("item", ("zz", "abcdefgh", "big")))
        nearly = [("a", "x"), ("a", "x", "old"), ["a", "x", "big"], ("a", "x", "big", "big"),
                  ("A", "x", "big"), ("a", 1, "big"), ("x",)]
        for value in [*any_values(), *nearly]:
            self.check(False, *made("item", value))

    def words_of(self, is_right, *several):
        self.check(is_right, *[Counted("item", words, 0, None) for words in several])

    def test_words_of_name_columns(self):
        self.words_of(True, {}, {"id": "a"}, {"id": "abcdefgh", "at": "zz"}, {"at": "big"})
        self.words_of(False, {"id": ["a"]}, {"id": ("a",)}, {"id": []}, {"id": "a", "at": ["x"]})
        for value in any_values():
            self.words_of(False, {"id": value}, {"kind": "big", "at": value})

    def test_words_of_mark_columns(self):
        self.words_of(True, {"kind": "big"}, {"kind": ["big"]}, {"kind": ("small", "big")},
                      {"kind": ["big", "big"]}, {"kind": ["big", "small", "big"], "id": "a"})
        self.words_of(False, {"kind": []}, {"kind": ()}, {"kind": "old"}, {"kind": ["old"]},
                      {"kind": ["big", "old"]}, {"kind": ["big", None]}, {"kind": [["big"]]},
                      {"kind": {"big": 1}}, {"kind": "bi"}, {"kind": "big", "id": ""})
        for value in any_values():
            self.words_of(False, {"kind": value}, {"kind": [value]}, {"kind": ["big", value]})

    def test_other_columns_and_other_kinds_of_words(self):
        for value in filter(is_key, [*any_values(), "ids", "item", "a"]):
            self.words_of(False, {value: "a"}, {"id": "a", value: "big"})
        for value in any_values():
            if value != {}:
                self.words_of(False, value)
        self.words_of(False, [], [("id", "a")], "id", None)

    def bounds(self, is_right, least, most):
        self.check(is_right, Counted("item", {"id": "a"}, least, most))

    def test_bounds(self):
        for least in (0, 1, 2, 7, 10 ** 59):
            for most in (None, least, least + 1, 10 ** 60 - 1):
                self.bounds(True, least, most)
        for least, most in ((1, 0), (2, 1), (-1, 1), (-1, None), (-2, -1), (10 ** 59, 5)):
            self.bounds(False, least, most)

    def test_bounds_of_any_kind(self):
        for value in [*any_values(), "a"]:
            if type(value) is not int or value < 0:
                self.bounds(False, value, None)
                self.bounds(False, value, 10 ** 59)
                if value is not None:
                    self.bounds(False, 0, value)
        self.bounds(False, 0, False)
        self.bounds(False, True, 1)

    def test_short_and_long(self):
        pairs = [("id", "at")]
        both = [Rule("shop", "item", pairs, 1, 2), Rule("shop", "item", pairs, 2, 2),
                Total("item", 1, 3), Total("item", 1, 1, where={"kind": ["big"]})]
        for statement in both:
            self.check(True, Short(statement), Long(statement))
        for statement in (Rule("shop", "item", pairs, 0, 2), Total("item", 0, 0), Rule.key("item")):
            self.check(True, Long(statement))
            self.check(False, Short(statement))
        for statement in (Rule("shop", "item", pairs, 2, None), Total("item", 1, None)):
            self.check(True, Short(statement))
            self.check(False, Long(statement))

    def test_statements_that_are_none_of_the_schema(self):
        wrong = [Total("items", 1, 2), Rule("item", "shop", [("id", "at")], 1, 2), Total,
                 Rule("item", "shop", [("kind", "id")], 1, 2), Present("item", A_ROW),
                 Total("item", 1, 2, where={"id": ["a"]})]
        for value in [*any_values(), *wrong]:
            self.check(False, Short(value), Long(value))

    def test_other_schemas(self):
        more = Schema(Table("more", "id"), *[town()[name] for name in town().names])
        less = Schema(town()["item"])
        other = Schema(Table("item", "id", "at", ("kind", ["big", "old"])), Table("shop", "id", "at"))
        facts = [*made("shop", ("x",)), *made("shop", {"id": "x"}, 0, 1), *made(Total("shop", 1, 1))]
        for fact in facts:
            self.assertIs(self.is_of(fact, more), True)
            self.assertIs(self.is_of(fact, less), False)
        for fact in (*made("shop", ("x",)), *made("item", A_ROW), Counted("item", {"kind": "small"}, 0, 1)):
            self.assertIs(self.is_of(fact, other), False)


class CalledTest(FactsTest):
    """Whether facts hold [30]."""

    def check(self, fact, database, holds):
        self.assertIs(fact(database), holds)
        self.assertIs(fact(database=database), holds)

    def test_present_and_missing(self):
        for row in (("b", "x", "big"), ("a", "x", "small"), ("a", "x", "big"), ("c", "x", "big")):
            there = row in house()["item"]
            self.check(Present("item", row), house(), there)
            self.check(Missing("item", row), house(), not there)
        self.check(Present("shop", ("x",)), house(), True)
        self.check(Present("shop", ("x",)), Database(town()), False)
        self.check(Missing("shop", ("a",)), house(), True)

    def test_counted(self):
        rows = [("a", "x", "big"), ("b", "x", "small"), ("c", "x", "small"), ("d", "y", "small")]
        database = filled(town(), item=rows)
        asked = [({}, 4), ({"at": "x"}, 3), ({"kind": "small", "at": "x"}, 2), ({"id": "z"}, 0),
                 ({"kind": ["big"]}, 1), ({"kind": ("small", "big", "big")}, 4)]
        for words, many in asked:
            for least in range(6):
                self.check(Counted("item", words, least, None), database, least <= many)
                for most in range(least, 6):
                    self.check(Counted("item", words, least, most), database, least <= many <= most)

    def test_short_and_long_of_rules(self):
        some = ["y", "z", "z", "z"]
        items = [("abcd"[at], place, "big") for at, place in enumerate(some)]
        for places in (["x"], ["y"], ["z"], ["x", "y"], ["y", "z"], ["x", "z"], []):
            database = filled(town(), item=items, shop=[(place,) for place in places])
            counts = [some.count(place) for place in places]
            for least in (1, 2):
                fact = Short(Rule("shop", "item", [("id", "at")], least, None))
                self.check(fact, database, any(many < least for many in counts))
            for most in range(4):
                fact = Long(Rule("shop", "item", [("id", "at")], 0, most))
                self.check(fact, database, any(many > most for many in counts))

    def test_short_and_long_of_totals(self):
        for many in range(6):
            rows = [("abcdef"[at], "x", "big") for at in range(many)]
            database = filled(town(), item=[*rows, ("z", "z", "small")])
            for least in (1, 2):
                fact = Short(Total("item", least, None, where={"kind": ["big"]}))
                self.check(fact, database, many < least)
            for most in range(4):
                fact = Long(Total("item", 0, most, where={"kind": ["big"]}))
                self.check(fact, database, many > most)

    def test_the_database_is_not_changed(self):
        database = house()
        for fact in (*made("item", ("c", "x", "big")), *made("item", {}, 1, 2), *made(Total("shop", 1, 2))):
            fact(database)
        self.assertEqual(database, house())


class EqualFactsTest(FactsTest):
    """`==` of [30], and `!=`."""

    def facts(self):
        """Facts that are all unlike."""
        return [
            *made("item", A_ROW), *made("shop", A_ROW), *made("item", ("b", "x", "big")),
            *made("item", list(A_ROW)), *made(["item"], A_ROW), *made(None, None),
            *made("item", {}, 1, 2), *made("shop", {}, 1, 2), *made("item", {}, 0, 2),
            *made("item", {}, 1, 3), *made("item", {}, 1, None), *made("item", {"kind": "big"}, 1, 2),
            *made("item", {"kind": ["big"]}, 1, 2), *made("item", {"kind": ["big", "big"]}, 1, 2),
            *made("item", {"id": "big"}, 1, 2), *made("item", [], 1, 2), *made("item", (), 1, 2),
            *made(Total("item", 1, 2)), *made(Total("item", 1, 3)), *made(Rule.key("item", "id")),
            *made(None), *made("item"), *made(["item"]), *made(("item",)),
        ]

    def test_equal_and_unlike(self):
        for at, one in enumerate(self.facts()):
            for beside, other in enumerate(self.facts()):
                self.assertIs(one == other, at == beside, (at, beside))
                self.assertIs(one != other, at != beside, (at, beside))

    def test_a_list_and_a_tuple_at_a_column(self):
        one = Counted("item", {"kind": ["big", "small"], "id": "a"}, 1, 2)
        self.assertIs(one == Counted("item", {"id": "a", "kind": ("big", "small")}, 1, 2), True)
        self.assertIs(one == Counted("item", {"id": "a", "kind": ("small", "big")}, 1, 2), False)

    def test_other_kinds(self):
        for fact in self.facts():
            for value in [*any_values(), "item", A_ROW, Total("item", 1, 2)]:
                self.assertIs(fact == value, False)
                self.assertIs(value == fact, False)
                self.assertIs(fact != value, True)
