import unittest

from onlylooks.errors import InvalidRule
from onlylooks.statements import Rule, Statement, Total
from tests.anything import any_values, changed, is_plain

ARGUMENTS = ["table", "other", "pairs", "least", "most", "where", "other_where"]
RIGHT_PAIRS = [
    [], (), [("a", "b")], (("a", "a"),), [("a", "b"), ("b", "a")], (("a", "x"), ("b", "y")),
]
WRONG_PAIRS = [
    [("a",)], [("a", "b", "c")], [["a", "b"]], ["ab"], [("a", 1)], [("A", "b")], [("a", "")],
    [("a", "b"), ("a", "c")], [("a", "c"), ("b", "c")], [("a", "b"), ("a", "b")],
    [("a", "b"), ("c", "d"), ("e", "f")], [("a", "b"), None], {("a", "b"): 1}, "ab", ("a", "b"),
    [(("a",), "b")], [("a", ["b"])],
]
RIGHT_WHERES = [
    None, {}, {"a": ["x"]}, {"a": ("x", "y")}, {"b": ["y", "x"], "a": ["x"]},
    {"c": ["x"], "b": ("x",), "a": ["y", "z"], "d": ["a"]},
]
WRONG_WHERES = [
    {"a": "x"}, {"a": []}, {"a": ()}, {"a": ["x", "y", "z"]}, {"a": ["x", "x"]}, {"a": [1]},
    {"a": ["x", None]}, {"a": [("x",)]}, {"a": {"x": 1}}, {"a": None}, {1: ["x"]}, {"": ["x"]},
    {("a",): ["x"]}, {"a": ["x"], "abcdefghi": ["x"]}, [("a", ["x"])], [], (), "", 0, False,
    {"a": ["X"]},
]
LEASTS = [0, 1, 2]
MOSTS = [0, 1, 2, 3]


def right_bounds():
    """All tuples (least, most) that a statement may have."""
    bounds = [(least, most) for least in LEASTS for most in MOSTS if least <= most]
    return [*bounds, (1, None), (2, None)]


class StatementsTest(unittest.TestCase):
    def refused(self, argument, call):
        with self.assertRaises(InvalidRule) as caught:
            call()
        self.assertEqual(caught.exception.argument, argument)

    def kept_where(self, where):
        """The dict that a where is told as."""
        return {} if where is None else {key: tuple(sorted(where[key])) for key in where}

    def check_where(self, told, where):
        self.assertEqual(told, self.kept_where(where))
        self.assertTrue(is_plain(told) and type(told) is dict)
        self.assertEqual(list(told), sorted(told))


class RuleTest(StatementsTest):
    """Rule of [20]."""

    def made(self, **told):
        right = {"table": "t", "other": "o", "pairs": [("a", "b")], "least": 1, "most": 2}
        return Rule(**{**right, **told})

    def test_properties(self):
        rule = Rule("item", "shop", [("at", "id")], 1, 2, where={"kind": ["small", "big"]})
        self.assertEqual((rule.table, rule.other, rule.pairs), ("item", "shop", (("at", "id"),)))
        self.assertEqual((rule.least, rule.most), (1, 2))
        self.assertEqual((rule.where, rule.other_where), ({"kind": ("big", "small")}, {}))
        self.assertIsInstance(rule, Statement)
        self.assertEqual(Rule.__bases__, (Statement,))

    def test_wheres_by_name_only(self):
        with self.assertRaises(TypeError):
            Rule("t", "o", [], 1, 2, {})

    def test_tables(self):
        for word in ("a", "abcdefgh"):
            self.assertEqual(self.made(table=word).table, word)
            self.assertEqual(self.made(other=word).other, word)
        for value in any_values():
            with self.subTest(value=value):
                self.refused("table", lambda: self.made(table=value))
                self.refused("other", lambda: self.made(other=value))

    def test_pairs(self):
        for pairs in RIGHT_PAIRS:
            told = self.made(pairs=pairs).pairs
            self.assertEqual(told, tuple(pairs))
            self.assertTrue(is_plain(told) and type(told) is tuple)
        right = [*RIGHT_PAIRS, [("a", "b")]]
        for value in [*any_values(), *WRONG_PAIRS]:
            if value not in right:
                with self.subTest(value=value):
                    self.refused("pairs", lambda: self.made(pairs=value))

    def test_bounds(self):
        for least, most in right_bounds():
            rule = self.made(least=least, most=most)
            self.assertEqual((rule.least, rule.most), (least, most))
            self.assertIs(type(rule.least), int)

    def test_wrong_bounds(self):
        for least in [*any_values(), "a"]:
            if type(least) is int and 0 <= least <= 2:
                continue
            with self.subTest(least=least):
                self.refused("least", lambda: self.made(least=least, most=3))
                self.refused("least", lambda: self.made(least=least, most=least))
        for least in LEASTS:
            for most in [*any_values(), "a"]:
                if type(most) is int and least <= most <= 3 or most is None and least > 0:
                    continue
                with self.subTest(least=least, most=most):
                    self.refused("most", lambda: self.made(least=least, most=most))

    def test_wheres(self):
        for where in RIGHT_WHERES:
            self.check_where(self.made(where=where).where, where)
            self.check_where(self.made(other_where=where).other_where, where)
            self.assertEqual(self.made(where=where).other_where, {})
            self.assertEqual(self.made(other_where=where).where, {})

    def test_wrong_wheres(self):
        for value in [*any_values(), *WRONG_WHERES]:
            if value in RIGHT_WHERES or value == {"a": ["b"]}:
                continue
            with self.subTest(value=value):
                self.refused("where", lambda: self.made(where=value))
                self.refused("other_where", lambda: self.made(other_where=value))

    def test_the_first_wrong_argument_is_told(self):
        wrong = dict(zip(ARGUMENTS, ["", "", None, None, "x", 1, 1]))
        for index, argument in enumerate(ARGUMENTS):
            told = {name: wrong[name] for name in ARGUMENTS[index:]}
            self.refused(argument, lambda: self.made(**told))

    def test_what_is_handed_in_may_change(self):
        pairs, where, other_where = [("a", "b")], {"a": ["y", "x"]}, {"b": ["z"]}
        rule = self.made(pairs=pairs, where=where, other_where=other_where)
        told = self.made(pairs=pairs, where=where, other_where=other_where)
        for value in (pairs, where, other_where):
            changed(value)
        self.assertEqual(rule, told)
        self.assertEqual(rule.pairs, (("a", "b"),))
        self.assertEqual((rule.where, rule.other_where), ({"a": ("x", "y")}, {"b": ("z",)}))

    def test_arguments_are_not_changed(self):
        pairs, where = [("a", "b")], {"b": ["y", "x"], "a": ["z"]}
        self.made(pairs=pairs, where=where, other_where=where)
        self.assertEqual((pairs, where), ([("a", "b")], {"b": ["y", "x"], "a": ["z"]}))
        self.assertEqual(list(where), ["b", "a"])

    def test_what_is_returned_may_change(self):
        rule = self.made(where={"a": ["x"]}, other_where={"b": ["y"]})
        changed(rule.where)
        changed(rule.other_where)
        self.assertEqual((rule.where, rule.other_where), ({"a": ("x",)}, {"b": ("y",)}))


class EqualStatementsTest(StatementsTest):
    """`==` of [20]."""

    def kinds(self):
        """Statements that are all unlike."""
        where, more = {"k": ["x"]}, {"k": ["x", "y"]}
        return [
            Rule("t", "o", [("a", "b")], 1, 2), Rule("u", "o", [("a", "b")], 1, 2),
            Rule("t", "t", [("a", "b")], 1, 2), Rule("t", "o", [], 1, 2),
            Rule("t", "o", [("a", "c")], 1, 2), Rule("t", "o", [("a", "b"), ("c", "d")], 1, 2),
            Rule("t", "o", [("c", "d"), ("a", "b")], 1, 2), Rule("t", "o", [("a", "b")], 0, 2),
            Rule("t", "o", [("a", "b")], 1, 3), Rule("t", "o", [("a", "b")], 1, None),
            Rule("t", "o", [("a", "b")], 1, 2, where=where),
            Rule("t", "o", [("a", "b")], 1, 2, where=more),
            Rule("t", "o", [("a", "b")], 1, 2, where={"l": ["x"]}),
            Rule("t", "o", [("a", "b")], 1, 2, other_where=where),
            Rule("t", "o", [("a", "b")], 1, 2, where=where, other_where=where),
            Total("t", 1, 2), Total("u", 1, 2), Total("t", 0, 2), Total("t", 1, 3),
            Total("t", 1, None), Total("t", 1, 2, where=where), Total("t", 1, 2, where=more),
        ]

    def test_equal_and_unlike(self):
        for at, one in enumerate(self.kinds()):
            for beside, other in enumerate(self.kinds()):
                self.assertIs(one == other, at == beside, (at, beside))
                self.assertIs(one != other, at != beside, (at, beside))

    def test_equal_by_properties(self):
        pairs = [("a", "b")]
        one = Rule("t", "o", pairs, 1, 2, where={"l": ["z"], "k": ["y", "x"]}, other_where={})
        other = Rule("t", "o", tuple(pairs), 1, 2, where={"k": ("x", "y"), "l": ("z",)})
        self.assertIs(one == other, True)
        self.assertIs(Total("t", 1, 2, where={}) == Total("t", 1, 2), True)

    def test_other_kinds(self):
        for statement in (Rule("t", "o", [], 1, 2), Total("t", 1, 2)):
            for value in [*any_values(), "t", object(), Rule]:
                self.assertIs(statement == value, False)
                self.assertIs(value == statement, False)
                self.assertIs(statement != value, True)


class TotalTest(StatementsTest):
    """Total of [20]."""

    def test_properties(self):
        for least, most in right_bounds():
            for where in RIGHT_WHERES:
                total = Total("item", least, most, where=where)
                self.assertEqual((total.table, total.least, total.most), ("item", least, most))
                self.check_where(total.where, where)
        self.assertEqual(Total(table="t", least=1, most=None).where, {})
        self.assertEqual(Total.__bases__, (Statement,))

    def test_where_by_name_only(self):
        with self.assertRaises(TypeError):
            Total("t", 1, 2, {})

    def test_wrong_arguments(self):
        for value in [*any_values(), *WRONG_WHERES]:
            with self.subTest(value=value):
                self.refused("table", lambda: Total(value, 1, 2))
                if not (type(value) is int and 0 <= value <= 2):
                    self.refused("least", lambda: Total("t", value, 3))
                if not (type(value) is int and 2 <= value <= 3 or value is None):
                    self.refused("most", lambda: Total("t", 2, value))
                if not (value in RIGHT_WHERES or value == {"a": ["b"]}):
                    self.refused("where", lambda: Total("t", 1, 2, where=value))
        self.refused("most", lambda: Total("t", 0, None))
        self.refused("most", lambda: Total("t", 1, 0))

    def test_the_first_wrong_argument_is_told(self):
        self.refused("table", lambda: Total("", -1, -2, where=1))
        self.refused("least", lambda: Total("t", -1, -2, where=1))
        self.refused("most", lambda: Total("t", 1, -2, where=1))
        self.refused("where", lambda: Total("t", 1, 2, where=1))

    def test_what_is_handed_in_or_returned_may_change(self):
        where = {"k": ["y", "x"]}
        total = Total("t", 1, 2, where=where)
        changed(where)
        changed(total.where)
        self.assertEqual(total.where, {"k": ("x", "y")})


class StaticMethodsTest(StatementsTest):
    """The static methods of [20]."""

    WHERES = {"where": {"a": ["y", "x"]}, "other_where": {"b": ["z"]}}

    def test_key(self):
        self.assertEqual(Rule.key("t", "a"), Rule("t", "t", [("a", "a")], 0, 1))
        self.assertEqual(Rule.key("t"), Rule("t", "t", [], 0, 1))
        expected = Rule("t", "t", [("b", "b"), ("a", "a")], 0, 1)
        self.assertEqual(Rule.key("t", "b", "a"), expected)

    def test_key_refused(self):
        for value in any_values():
            with self.subTest(value=value):
                self.refused("table", lambda: Rule.key(value, "a", "a"))
                self.refused("pairs", lambda: Rule.key("t", value))
                self.refused("pairs", lambda: Rule.key("t", "a", value))
        self.refused("pairs", lambda: Rule.key("t", "a", "a"))
        self.refused("pairs", lambda: Rule.key("t", "a", "b", "c"))

    def test_reference(self):
        where = self.WHERES["where"]
        self.assertEqual(Rule.reference("t", "o", [("a", "b")]), Rule("t", "o", [("a", "b")], 1, None))
        self.assertEqual(
            Rule.reference("t", "o", [], where=where), Rule("t", "o", [], 1, None, where=where))
        with self.assertRaises(TypeError):
            Rule.reference("t", "o", [], where)

    def test_at_most(self):
        for most in MOSTS:
            self.assertEqual(Rule.at_most("t", "o", [], most), Rule("t", "o", [], 0, most))
            self.assertEqual(
                Rule.at_most("t", "o", [("a", "b")], most, **self.WHERES),
                Rule("t", "o", [("a", "b")], 0, most, **self.WHERES))

    def test_exactly(self):
        for least in LEASTS:
            self.assertEqual(Rule.exactly("t", "o", [], least), Rule("t", "o", [], least, least))
            self.assertEqual(
                Rule.exactly("t", "o", [("a", "b")], least, **self.WHERES),
                Rule("t", "o", [("a", "b")], least, least, **self.WHERES))

    def test_none(self):
        self.assertEqual(Rule.none("t", "o", []), Rule("t", "o", [], 0, 0))
        self.assertEqual(
            Rule.none("t", "o", [("a", "b")], **self.WHERES),
            Rule("t", "o", [("a", "b")], 0, 0, **self.WHERES))

    def test_one_where_alone(self):
        for name, where in self.WHERES.items():
            told = {name: where}
            self.assertEqual(Rule.at_most("t", "o", [], 1, **told), Rule("t", "o", [], 0, 1, **told))
            self.assertEqual(Rule.exactly("t", "o", [], 1, **told), Rule("t", "o", [], 1, 1, **told))
            self.assertEqual(Rule.none("t", "o", [], **told), Rule("t", "o", [], 0, 0, **told))

    def made(self, table, other, pairs, many, **wheres):
        """What each static method with another table makes of arguments, by its name."""
        calls = {
            "reference": lambda: Rule.reference(table, other, pairs, **wheres),
            "at_most": lambda: Rule.at_most(table, other, pairs, many, **wheres),
            "exactly": lambda: Rule.exactly(table, other, pairs, many, **wheres),
            "none": lambda: Rule.none(table, other, pairs, **wheres),
        }
        if "other_where" in wheres:
            del calls["reference"]
        return calls

    def test_errors(self):
        for value in any_values():
            with self.subTest(value=value):
                for call in self.made(value, value, 1, -1, where=1).values():
                    self.refused("table", call)
                for call in self.made("t", value, 1, -1, where=1).values():
                    self.refused("other", call)
        for value in WRONG_PAIRS:
            for call in self.made("t", "o", value, -1, where=1).values():
                self.refused("pairs", call)
        for value in WRONG_WHERES:
            with self.subTest(value=value):
                for call in self.made("t", "o", [], 1, where=value).values():
                    self.refused("where", call)
                for call in self.made("t", "o", [], 1, where=value, other_where=value).values():
                    self.refused("where", call)
                for call in self.made("t", "o", [], 1, other_where=value).values():
                    self.refused("other_where", call)

    def test_errors_of_bounds(self):
        for value in any_values():
            if type(value) is int and 0 <= value <= 3:
                continue
            with self.subTest(value=value):
                self.refused("most", lambda: Rule.at_most("t", "o", [], value, where=1))
                self.refused("least", lambda: Rule.exactly("t", "o", [], value, where=1))
        self.refused("least", lambda: Rule.exactly("t", "o", [], 3))
        self.refused("most", lambda: Rule.at_most("t", "o", [], None))

    def test_by_name(self):
        self.assertEqual(
            Rule.exactly(table="t", other="o", pairs=[], least=1), Rule("t", "o", [], 1, 1))
        self.assertEqual(Rule.at_most(table="t", other="o", pairs=[], most=1),
                         Rule(table="t", other="o", pairs=[], least=0, most=1))
