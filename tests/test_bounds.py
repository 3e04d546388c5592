"""How many rows have to come in at least and may at most, and which words need not be told apart."""

import unittest

from onlylooks.asks import Problem
from onlylooks.bounds import more_rows
from onlylooks.facts import Counted, Long, Missing, Present, Short
from onlylooks.possible import possible
from onlylooks.rooms import is_room_for, most_to_come
from onlylooks.rules import Rules
from onlylooks.searches import lacks_with_ways
from onlylooks.statements import Rule, Total
from onlylooks.states import first_state
from onlylooks.tables import Schema, Table
from onlylooks.twins import twins_of
from tests.towns import town

OWNED = Rule.reference("item", "shop", [("at", "id")])
TWO = Rule("item", "shop", [], 2, None)


class MoreRowsTest(unittest.TestCase):
    def check(self, expected, statements, facts, schema=None):
        problem = Problem(Rules(town() if schema is None else schema, *statements), facts)
        state = first_state(problem)
        self.assertEqual(more_rows(lacks_with_ways(problem, state), state[0]), expected)

    def test_one_lack(self):
        self.check(0, [], [])
        self.check(3, [], [Counted("shop", {}, 3, None)])
        self.check(1, [OWNED], [Present("item", ("a", "x", "big"))])
        self.check(2, [TWO], [Present("item", ("a", "x", "big"))])
        self.check(1, [TWO], [Present("item", ("a", "x", "big")), Present("shop", ("z",))])
        self.check(2, [Total("item", 2, None)], [])
        self.check(3, [], [Long(Total("item", 0, 2))])

    def test_one_row_may_serve_several(self):
        self.check(3, [], [Counted("item", {}, 3, None), Counted("item", {"at": "x"}, 2, None), Counted("item", {}, 1, None)])
        self.check(3, [], [Counted("item", {"kind": "big"}, 2, None), Counted("item", {"at": "x"}, 3, None)])
        same = [Present("item", ("a", "x", "big")), Present("item", ("b", "x", "big"))]
        self.check(1, [OWNED], same)
        self.check(2, [TWO], same)
        self.check(1, [Rule("item", "shop", [], 1, None)], [Present("item", ("a", "x", "big")), Present("item", ("b", "y", "big"))])

    def test_rows_of_unlike_tables(self):
        self.check(5, [], [Counted("item", {}, 3, None), Counted("shop", {}, 2, None)])
        self.check(3, [OWNED], [Present("item", ("a", "x", "big")), Counted("item", {}, 3, None)])

    def test_rows_with_unlike_words(self):
        self.check(5, [], [Counted("item", {"kind": "big"}, 2, None), Counted("item", {"kind": "small"}, 3, None)])
        self.check(5, [], [Counted("item", {"id": "a"}, 2, None), Counted("item", {"id": "b"}, 3, None), Counted("item", {}, 4, None)])
        self.check(2, [OWNED], [Present("item", ("a", "x", "big")), Present("item", ("b", "y", "big"))])
        self.check(3, [], [Counted("item", {"kind": ["big", "small"]}, 2, None), Counted("item", {"kind": "small"}, 3, None)])

    def test_rows_to_be_chosen(self):
        self.check(1, [], [Short(OWNED)])
        self.check(0, [], [Short(OWNED), Present("item", ("a", "x", "big"))])
        small = Rule("item", "shop", [], 1, 1, where={"kind": ["small"]})
        self.check(1, [], [Short(small), Present("item", ("a", "x", "big"))])
        self.check(2, [], [Short(small), Long(Rule.none("item", "item", [], where={"kind": ["big"]}))])
        self.check(1, [], [Short(small), Counted("item", {"kind": "small"}, 1, None)])

    def test_rows_that_count_at_unlike_rows(self):
        """Two rows of one column alone are unlike there, though it has open names."""
        schema = Schema(Table("t", ("a", ["p", "q"])), Table("u", ("a", ["p", "q"]), "b"))
        pair = Rule("t", "u", [("a", "a")], 2, None)
        self.check(4, [pair], [Present("t", ("p",)), Present("t", ("q",))], schema)
        wide = Schema(Table("t", "a", "b"), Table("u", "a", "b"))
        rows = [Present("t", ("x", "y")), Present("t", ("x", "z"))]
        self.check(2, [Rule.reference("t", "u", [("a", "a"), ("b", "b")])], rows, wide)
        self.check(1, [Rule.reference("t", "u", [("a", "a")])], rows, wide)
        self.check(2, [Rule.reference("t", "u", [("b", "b")])], rows, wide)

    def test_ways_without_a_new_row(self):
        schema = Schema(Table("t", "a"), Table("u", "a"))
        problem = Problem(Rules(schema, Rule("u", "t", [("a", "a")], 1, None)), [])
        rows = (("t", "0"), ("u", "x"))
        self.assertEqual(more_rows(lacks_with_ways(problem, (rows, ())), rows), 0)
        two = (("t", "0"), ("u", "1"), ("u", "2"))
        # The two rows of u are unlike: so are the rows of t that go with them. One t may serve each.
        self.assertEqual(more_rows(lacks_with_ways(problem, (two, ())), two), 0)
        none = (("u", "1"), ("u", "2"))
        self.assertEqual(more_rows(lacks_with_ways(problem, (none, ())), none), 2)


class RoomsTest(unittest.TestCase):
    """How many new rows the bounds from above let come in together."""

    def schema(self):
        marks = ["p", "q", "r"]
        return Schema(Table("t", "n", ("a", marks), ("b", marks)), Table("u", "n", ("a", marks)))

    def check(self, expected, statements, facts, new, there=()):
        problem = Problem(Rules(self.schema(), *statements), facts)
        state = (tuple(there), first_state(problem)[1])
        self.assertEqual(most_to_come(problem, state, new), expected)
        if expected is not None:
            self.assertTrue(is_room_for(problem, state, expected, new))
            self.assertFalse(is_room_for(problem, state, expected + 1, new))
        else:
            self.assertTrue(is_room_for(problem, state, 99, new))

    def rows(self, marks, name="0.1"):
        """New rows of t, with these marks."""
        return [("t", name, *word) for word in marks.split()]

    def test_totals(self):
        every, p = Total("t", 0, 3), Total("t", 0, 1, where={"a": ["p"]})
        self.check(None, [], [], self.rows("pp qq"))
        self.check(3, [every], [], self.rows("pp qq"))
        self.check(1, [every, p], [], self.rows("pp pr"))
        self.check(4, [every, p], [], self.rows("pp qq"))
        self.check(None, [p, Total("u", 0, 1)], [], self.rows("pp qq"))
        self.check(3, [p, Total("t", 0, 2, where={"a": ["q", "r"]})], [], self.rows("pp qq rr pr"))
        self.check(2, [every], [], self.rows("pp qq"), [("t", "x", "p", "p"), ("u", "x", "p")])
        self.check(0, [p], [], self.rows("pp"), [("t", "x", "p", "p")])
        self.check(None, [Total("t", 1, None)], [], self.rows("pp"))

    def test_facts(self):
        self.check(2, [], [Counted("t", {"b": ["p", "q"]}, 0, 2)], self.rows("pp qq"))
        self.check(1, [], [Counted("t", {"n": "x"}, 0, 1)], self.rows("pp qq", "x"))
        self.check(None, [], [Counted("t", {"n": "x"}, 0, 1)], self.rows("pp qq"))
        self.check(1, [], [Short(Total("t", 2, None))], self.rows("pp qq"))
        self.check(None, [], [Long(Total("t", 0, 2)), Missing("t", ("x", "p", "p")), Present("u", ("x", "p"))], self.rows("pp qq"))
        self.check(None, [], [Short(Rule("t", "t", [], 1, 1))], self.rows("pp qq"))

    def test_rules_at_rows_that_are_there(self):
        few = Rule.at_most("u", "t", [("n", "n")], 2, other_where={"b": ["p", "q"]})
        there = [("u", "x", "p"), ("t", "x", "r", "p")]
        self.check(1, [few], [], self.rows("pp qq", "x"), there)
        self.check(None, [few], [], self.rows("pp qr", "x"), there)
        self.check(None, [few], [], self.rows("pp qq", "y"), there)
        self.check(None, [few], [], self.rows("pp qq", "x"))
        self.check(2, [Rule.at_most("u", "t", [], 2)], [], self.rows("pp qq"), [("u", "x", "p")])

    def test_rules_at_the_new_rows(self):
        one = Rule("t", "t", [("a", "a")], 0, 1)
        self.check(2, [one], [], self.rows("pp pq qq"))
        self.check(3, [Rule("t", "t", [("a", "a")], 0, 3)], [], self.rows("pp pq pr"))
        self.check(1, [Rule("t", "t", [("a", "a")], 0, 2)], [], self.rows("pp pq"), [("t", "x", "p", "r")])
        self.check(2, [Rule("t", "t", [("n", "n")], 0, 2)], [], self.rows("pp pq", "x"))
        self.check(None, [Rule("t", "t", [("n", "n")], 0, 2)], [], self.rows("pp pq"))
        self.check(2, [Rule("t", "t", [], 0, 2)], [], self.rows("pp qq"))
        self.check(4, [Rule("t", "t", [("a", "b")], 0, 2)], [], self.rows("pp qq"))
        self.check(None, [Rule("t", "t", [("a", "b")], 0, 2)], [], self.rows("pq"))
        self.check(None, [Rule("u", "t", [("a", "a")], 0, 2)], [], self.rows("pp"))
        self.check(None, [Rule("t", "u", [("a", "a")], 0, 2)], [], self.rows("pp"))

    def test_rules_at_the_new_rows_with_a_where(self):
        """Rows that have no place of their own may come in without one that has."""
        self.check(2, [Rule("t", "t", [("a", "a")], 0, 2, where={"b": ["p"]})], [], self.rows("pp"))
        self.check(None, [Rule("t", "t", [("a", "a")], 0, 2, where={"b": ["p"]})], [], self.rows("pp pq"))
        self.check(1, [Rule("t", "t", [("a", "a")], 0, 2, where={"b": ["p"]})], [], self.rows("pp"), [("t", "x", "p", "q")])
        self.check(None, [Rule("t", "t", [("a", "a")], 0, 2, other_where={"b": ["q"]})], [], self.rows("pp"))
        self.check(2, [Rule("t", "t", [("a", "a")], 0, 2, other_where={"b": ["q"]})], [], self.rows("pq"))

    def test_more_rows_than_there_is_room_for(self):
        """What would take very long row by row."""
        marks = ["p", "q", "r"]
        schema = Schema(Table("t", ("a", marks), ("b", marks), ("c", marks)))
        three = [Total("t", 0, 3, where={"a": [mark]}) for mark in marks]
        for statements in (three, [Rule("t", "t", [("a", "a")], 0, 3)], [Rule("t", "t", [("b", "b")], 0, 3)]):
            rules = Rules(schema, *statements)
            self.assertIsNone(possible(rules, Counted("t", {}, 10, None)))
            self.assertIsNone(possible(rules, Long(Rule.at_most("t", "t", [], 3)), Counted("t", {}, 10, None)))
            found = possible(rules, Counted("t", {}, 9, None))
            self.assertEqual((len(found), rules.keeps(found)), (9, True))


class TwinsTest(unittest.TestCase):
    def schema(self):
        return Schema(Table("t", ("a", ["p", "q", "r"]), ("b", ["p", "q", "r"]), "n"), Table("u", ("c", ["p", "q", "r"])))

    def check(self, expected, statements, facts):
        """For each mark column the groups of words that may be exchanged for one another."""
        twins = twins_of(Problem(Rules(self.schema(), *statements), facts))
        told = {}
        for (name, spot, word), text in twins.items():
            self.assertEqual(text.partition(":")[2], word)
            told.setdefault((name, spot, text.partition(":")[0]), []).append(word)
        self.assertEqual(sorted((name, spot, "".join(words)) for (name, spot, _), words in told.items()), expected)

    def test_nothing_tells_them_apart(self):
        self.check([("t", 1, "pqr"), ("t", 2, "pqr"), ("u", 1, "pqr")], [], [])
        self.check([("t", 1, "pqr"), ("t", 2, "pqr"), ("u", 1, "pqr")], [Rule.key("t", "a"), Total("t", 0, 1)], [])

    def test_rules(self):
        self.check([("t", 1, "pq"), ("t", 2, "pqr"), ("u", 1, "pqr")], [Total("t", 0, 1, where={"a": ["r"]})], [])
        self.check([("t", 1, "pq"), ("t", 2, "pqr"), ("u", 1, "pqr")], [Total("t", 0, 1, where={"a": ["p", "q"]})], [])
        self.check([("t", 2, "pqr"), ("u", 1, "pqr")], [Total("t", 0, 1, where={"a": ["p", "q"]}), Total("t", 0, 1, where={"a": ["p"]})], [])
        self.check([("t", 1, "pq"), ("t", 2, "pqr"), ("u", 1, "qr")], [Rule("t", "u", [], 0, 1, where={"a": ["r"]}, other_where={"c": ["p"]})], [])

    def test_pairs_join_columns(self):
        joined = Rule("t", "u", [("a", "c")], 0, 1)
        self.check([("t", 1, "pq"), ("t", 2, "pqr"), ("u", 1, "pq")], [joined, Total("u", 0, 1, where={"c": ["r"]})], [])
        self.check([("t", 2, "pqr")], [joined, Total("u", 0, 1, where={"c": ["r"]}), Total("t", 0, 1, where={"a": ["q"]})], [])
        self.check([("t", 1, "pq"), ("t", 2, "pqr"), ("u", 1, "pq")], [joined], [Short(Rule("t", "u", [], 1, 1, where={"a": ["r"]}))])
        self.check([("t", 1, "pq"), ("t", 2, "pq"), ("u", 1, "pqr")], [Rule("t", "t", [("a", "b")], 0, 1)], [Counted("t", {"b": "r"}, 1, None)])

    def test_facts(self):
        self.check([("t", 1, "pq"), ("t", 2, "qr"), ("u", 1, "pqr")], [], [Present("t", ("r", "p", "p"))])
        self.check([("t", 1, "pq"), ("t", 2, "qr"), ("u", 1, "pqr")], [], [Missing("t", ("r", "p", "p"))])
        self.check([("t", 1, "pqr"), ("t", 2, "pqr"), ("u", 1, "qr")], [], [Counted("u", {"c": "p"}, 0, 1), Counted("t", {"n": "p"}, 0, 1)])
        self.check([("t", 1, "pqr"), ("t", 2, "pqr"), ("u", 1, "pqr")], [], [Counted("u", {"c": ["p", "q", "r"]}, 0, 1)])
