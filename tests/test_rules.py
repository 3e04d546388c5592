import unittest

from onlylooks.databases import Database
from onlylooks.errors import Circle, Misfit, OtherSchema, TooMany
from onlylooks.rules import Rules
from onlylooks.statements import Rule, Statement, Total
from onlylooks.tables import Schema, Table
from tests.anything import any_values, is_plain
from tests.towns import filled, house, town

NAMES = ("d", "b", "c", "a")


def four():
    return Schema(*[Table(name, "id", ("k", ["u", "v"])) for name in NAMES])


def steps(text, least=1):
    """Rules that lead from the first letter of each word to the second one."""
    return [Rule(one, other, [], least, 3) for one, other in text.split()]


class MadeTest(unittest.TestCase):
    """What Rules are made of [22]."""

    def test_none_to_five_statements(self):
        some = [Total("a", 0, 1), Rule.key("b", "id"), Total("a", 0, 1), *steps("ab bc")]
        for many in range(6):
            rules = Rules(four(), *some[:many])
            self.assertEqual(rules.statements, tuple(some[:many]))
            self.assertIs(type(rules.statements), tuple)
            self.assertEqual((len(rules), rules.schema), (many, four()))

    def test_six_statements(self):
        some = [Total("a", 0, 1)] * 6
        with self.assertRaises(TooMany) as caught:
            Rules(four(), *some)
        self.assertEqual(caught.exception.limit, 5)

    def misfit(self, index, *values):
        with self.assertRaises(Misfit) as caught:
            Rules(four(), *values)
        self.assertEqual(caught.exception.index, index)

    def test_any_value_as_statement(self):
        right = Total("a", 0, 1)
        for value in [*any_values(), "a", Rule, object(), four(), Rules(four()), Statement()]:
            with self.subTest(value=value):
                self.misfit(0, value)
                self.misfit(2, right, right, value, value)

    def test_statements_of_another_schema(self):
        right = Total("a", 0, 1)
        for value in (Total("e", 0, 1), Rule.key("a", "at"), Rule("a", "e", [], 0, 1),
                      Total("a", 0, 1, where={"k": ["w"]}), Rule("a", "b", [("id", "k")], 0, 1)):
            self.misfit(0, value)
            self.misfit(1, right, value, right)

    def test_misfit_ahead_of_too_many_and_circle(self):
        circles = steps("aa bb cc dd ab")
        self.misfit(5, *circles, None)
        self.misfit(6, *circles, *circles[:1], "no", None)
        self.misfit(1, circles[0], None)

    def test_too_many_ahead_of_circle(self):
        with self.assertRaises(TooMany):
            Rules(four(), *steps("aa bb cc dd ab ac"))


class CircleTest(unittest.TestCase):
    """Ways that lead round, and ways that do not [22]."""

    def circle(self, name, text, least=1):
        with self.assertRaises(Circle) as caught:
            Rules(four(), *steps(text, least))
        self.assertEqual(caught.exception.value, name)

    def test_one_table(self):
        for name in NAMES:
            self.circle(name, name + name)
        self.circle("a", "ab aa bc")

    def test_two_tables(self):
        self.circle("b", "ab ba")
        self.circle("b", "ba ab")
        self.circle("d", "ad da")
        self.circle("c", "ac ca")

    def test_three_tables(self):
        self.circle("b", "ab bc ca")
        self.circle("b", "ca bc ab")
        self.circle("d", "ad dc ca")

    def test_four_tables(self):
        self.circle("d", "ab bc cd da")
        self.circle("d", "da cd bc ab")
        self.circle("d", "ac ba cd db ab")

    def test_the_first_table_in_the_order_of_the_schema(self):
        self.circle("b", "aa bb")
        self.circle("c", "ac ca aa")
        self.circle("d", "aa bb cc dd")

    def test_a_table_that_only_leads_to_a_circle(self):
        self.circle("b", "db ba ab")
        self.circle("c", "db bc ca ac")
        self.circle("a", "dc cb ba aa")
        self.circle("d", "db bd bc ca")

    def test_ways_that_do_not_lead_round(self):
        for text in ("ab", "ab bc", "ab bc cd", "ab ac ad bc bd", "ab ab ab", "ac bc dc", "ab cd ad"):
            self.assertEqual(len(Rules(four(), *steps(text))), len(text.split()))

    def test_bounds_from_below(self):
        for text in ("aa", "ab ba", "ab bc ca", "ab bc cd da"):
            self.assertEqual(len(Rules(four(), *steps(text, 0))), len(text.split()))
            self.circle({"aa": "a", "ab ba": "b", "ab bc ca": "b"}.get(text, "d"), text, 2)

    def test_one_bound_of_0_on_the_way(self):
        Rules(four(), *steps("ab bc"), *steps("ca", 0))
        Rules(four(), *steps("bc ca"), *steps("ab aa", 0))
        with self.assertRaises(Circle):
            Rules(four(), *steps("ab", 1), *steps("ba", 2))

    def test_totals_lead_nowhere(self):
        self.assertEqual(len(Rules(four(), Total("a", 1, 2), Total("b", 2, None))), 2)

    def test_pairs_and_wheres_do_not_matter(self):
        one = Rule("a", "b", [("id", "id")], 1, None, where={"k": ["u"]})
        other = Rule("b", "a", [("k", "k")], 1, 2, other_where={"k": ["v"]})
        with self.assertRaises(Circle):
            Rules(four(), one, other)

    def test_against_a_search_for_ways(self):
        words = [one + other for one in NAMES for other in NAMES]
        for first in words:
            for second in words:
                for third in words:
                    self.check(" ".join([first, second, third]))

    def check(self, text):
        some = text.split()
        round_ = [name for name in NAMES if name in reached(name, some)]
        if round_:
            self.circle(round_[0], text)
        else:
            Rules(four(), *steps(text))


def reached(name, words):
    """All tables that some words lead to from a table."""
    found, waiting = set(), [name]
    while waiting:
        here = waiting.pop()
        for one, other in words:
            if one == here and other not in found:
                found.add(other)
                waiting.append(other)
    return found


class KeptTest(unittest.TestCase):
    """`keeps` and `broken` of [22]."""

    def rules(self):
        few = Rule.at_most("shop", "item", [("id", "at")], 1, other_where={"kind": ["big"]})
        return Rules(town(), Total("shop", 0, 1), few, Rule.reference("item", "shop", [("at", "id")]),
                     Total("shop", 0, 1), Rule.key("item", "id"))

    def test_kept(self):
        self.assertIs(self.rules().keeps(house()), True)
        self.assertEqual(self.rules().broken(house()), ())
        self.assertIs(self.rules().keeps(Database(town())), True)

    def test_broken(self):
        database = filled(
            town(), shop=[("x",), ("y",)],
            item=[("a", "y", "big"), ("b", "y", "big"), ("a", "z", "big"), ("b", "a", "small"),
                  ("c", "x", "big"), ("d", "x", "big")])
        expected = ((0, ()), (1, ("x",)), (1, ("y",)), (2, ("a",)), (2, ("z",)), (3, ()),
                    (4, ("a",)), (4, ("b",)))
        told = self.rules().broken(database)
        self.assertEqual(told, expected)
        self.assertTrue(is_plain(told) and type(told) is tuple)
        self.assertIs(self.rules().keeps(database), False)

    def test_one_broken_statement_is_enough(self):
        statements = self.rules().statements
        database = filled(town(), item=[("a", "z", "big")])
        self.assertIs(self.rules().keeps(database), False)
        self.assertEqual(self.rules().broken(database), ((2, ("z",)),))
        self.assertIs(Rules(town(), *statements[:2], *statements[3:]).keeps(database), True)

    def test_no_statements(self):
        self.assertIs(Rules(town()).keeps(house()), True)
        self.assertEqual(Rules(town()).broken(house()), ())

    def test_by_name(self):
        self.assertIs(self.rules().keeps(database=house()), True)
        self.assertEqual(self.rules().broken(database=house()), ())
        self.assertEqual(Rules(schema=town()), Rules(town()))

    def test_other_schema(self):
        names = town().names
        shuffled = Schema(*[town()[name] for name in reversed(names)])
        more = Schema(*[town()[name] for name in names], Table("more", "id"))
        for schema in (shuffled, more, four()):
            for rules in (Rules(town()), Rules(town(), Total("shop", 0, 1))):
                for call in (rules.keeps, rules.broken):
                    with self.assertRaises(OtherSchema):
                        call(Database(schema))


class SumTest(unittest.TestCase):
    """`+` and `==` of [22]."""

    def rules(self, text, schema=None):
        return Rules(four() if schema is None else schema, *steps(text))

    def test_both_in_order(self):
        for one, other in (("ab bc", "cd"), ("", "ab"), ("ab", ""), ("", ""), ("ab", "ab")):
            left, right = self.rules(one), self.rules(other)
            both = left + right
            self.assertEqual(both.statements, (*steps(one), *steps(other)))
            self.assertEqual((type(both), both.schema), (Rules, four()))
            self.assertEqual((left, right), (self.rules(one), self.rules(other)))

    def test_other_schema_ahead_of_all(self):
        five = self.rules("ab ab ab ab ab")
        shuffled = Schema(*[four()[name] for name in reversed(NAMES)])
        for other in (self.rules("ba", shuffled), self.rules("ba ba", shuffled), Rules(town())):
            with self.assertRaises(OtherSchema):
                five + other
            with self.assertRaises(OtherSchema):
                other + five

    def test_too_many_ahead_of_circle(self):
        with self.assertRaises(TooMany) as caught:
            self.rules("ab bc cd ab") + self.rules("ba dc")
        self.assertEqual(caught.exception.limit, 5)
        self.assertEqual(len(self.rules("ab bc cd") + self.rules("ab bc")), 5)

    def test_circle(self):
        for one, other, name in (("ab", "ba", "b"), ("ab bc cd", "da", "d"), ("ac", "ca", "c")):
            with self.assertRaises(Circle) as caught:
                self.rules(one) + self.rules(other)
            self.assertEqual(caught.exception.value, name)

    def test_other_kinds_are_not_added(self):
        for value in (None, [], Total("a", 0, 1), steps("ab")):
            with self.assertRaises(TypeError):
                self.rules("ab") + value

    def test_equal(self):
        some = ["", "ab", "ab ab", "ab bc", "bc ab"]
        for at, one in enumerate(some):
            for beside, other in enumerate(some):
                self.assertIs(self.rules(one) == self.rules(other), at == beside)
                self.assertIs(self.rules(one) != self.rules(other), at != beside)
        shuffled = Schema(*[four()[name] for name in reversed(NAMES)])
        self.assertIs(self.rules("ab") == self.rules("ab", shuffled), False)

    def test_other_kinds(self):
        rules = self.rules("ab")
        for value in [*any_values(), rules.statements, four(), steps("ab")[0]]:
            self.assertIs(rules == value, False)
            self.assertIs(value == rules, False)
            self.assertIs(rules != value, True)
