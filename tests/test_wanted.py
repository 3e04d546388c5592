"""How many rows facts and rules want [31], and the errors of all functions that take facts."""

import unittest

from onlylooks.errors import InvalidFact, TooMany
from onlylooks.facts import Counted, Fact, Long, Missing, Present, Short
from onlylooks.papers import is_paper, paper
from onlylooks.possible import numbers, possible, wanted
from onlylooks.rules import Rules
from onlylooks.statements import Rule, Total
from onlylooks.tables import Schema, Table
from tests.anything import any_values

A_ROW = ("a", "p")


def four():
    return Schema(*[Table(name, "id", ("k", ["p", "q"])) for name in ("a", "b", "c", "d")])


def steps(text, least=1):
    """Rules that lead from the first letter of each word to the second one."""
    return [Rule(one, other, [], least, None) for one, other in text.split()]


def rules_of(*statements):
    return Rules(four(), *statements)


class WantedTest(unittest.TestCase):
    def test_each_kind_of_fact_without_rules(self):
        rule, total = Rule("a", "b", [], 1, 2), Total("a", 2, 3)
        cases = [
            (0, []), (1, [Present("a", A_ROW)]), (0, [Missing("a", A_ROW)]),
            (0, [Counted("a", {}, 0, None)]), (3, [Counted("a", {}, 3, None)]),
            (2, [Counted("a", {"id": "x", "k": ["p", "p"]}, 2, 5)]),
            (1, [Short(rule)]), (4, [Long(rule)]), (0, [Short(total)]), (4, [Long(total)]),
            (2, [Long(Rule.none("a", "b", []))]), (1, [Long(Total("a", 0, 0))]),
            (1, [Short(Rule("a", "b", [], 2, None))]),
        ]
        for expected, facts in cases:
            told = wanted(rules_of(), *facts)
            self.assertEqual(told, expected)
            self.assertIs(type(told), int)

    def test_each_fact_for_itself_equal_ones_too(self):
        facts = [Present("a", A_ROW), Present("a", A_ROW), Counted("a", {}, 2, None),
                 Counted("a", {}, 2, None), Missing("a", A_ROW), Long(Total("a", 0, 1))]
        self.assertEqual(wanted(rules_of(), *facts), 1 + 1 + 2 + 2 + 0 + 2)

    def test_totals_of_the_rules(self):
        rules = rules_of(Total("a", 2, None), Total("b", 1, 1, where={"k": ["p"]}), Total("a", 2, 3), Total("c", 0, 3))
        self.assertEqual(wanted(rules), 5)
        self.assertEqual(wanted(rules, Present("c", A_ROW)), 6)

    def test_totals_reach_too(self):
        self.assertEqual(wanted(rules_of(Total("a", 2, 2), *steps("ab"))), 4)

    def test_reaches(self):
        cases = [
            ("", 1), ("ab", 2), ("ab ac", 3), ("ab bc", 3), ("ab bc cd", 4), ("ab ab", 3),
            ("ab ac bd cd", 5), ("ba", 1), ("bc cd", 1), ("ab ac ad bd cd", 6),
        ]
        for text, expected in cases:
            self.assertEqual(wanted(rules_of(*steps(text)), Present("a", A_ROW)), expected, text)
        for text, expected in [("ab", 3), ("ab bc", 7), ("ab bc cd", 15), ("ab ac", 5)]:
            self.assertEqual(wanted(rules_of(*steps(text, 2)), Present("a", A_ROW)), expected, text)

    def test_a_least_of_0_reaches_nothing(self):
        rules = rules_of(Rule("a", "b", [], 0, 3), Rule("a", "a", [("id", "id")], 0, 1), Total("b", 0, 1))
        self.assertEqual(wanted(rules, Counted("a", {}, 3, 3)), 3)

    def test_the_table_that_is_wanted_tells_the_reach(self):
        rules = rules_of(*steps("ab", 2), *steps("bc"))
        self.assertEqual(wanted(rules, Counted("b", {}, 3, None)), 6)
        self.assertEqual(wanted(rules, Short(Rule("b", "a", [], 1, None))), 2)
        self.assertEqual(wanted(rules, Long(Rule("b", "a", [], 0, 1))), 2 + 2 * 5)
        self.assertEqual(wanted(rules, Long(Rule("a", "c", [], 0, 2))), 5 + 3)
        self.assertEqual(wanted(rules, Long(Total("b", 0, 1))), 4)

    def test_very_large_numbers(self):
        many = 10 ** 59
        self.assertEqual(wanted(rules_of(), Counted("a", {}, many, None), Counted("a", {}, 7, many)), many + 7)
        self.assertEqual(wanted(rules_of(*steps("ab bc", 2)), Counted("a", {}, many, many)), 7 * many)

    def test_invalid_facts(self):
        wrong = [*any_values(), "a", Fact(), Present, four(), Total("a", 0, 1), Present("z", A_ROW),
                 Missing("a", ("a", "z")), Counted("a", {"z": "a"}, 0, None), Counted("a", {}, 0, True),
                 Short(Total("a", 0, 1)), Long(Total("a", 1, None)), Long(Total("z", 0, 1))]
        for value in wrong:
            for facts in [[value], [value, value], [value, Present("a", A_ROW)]]:
                with self.assertRaises(InvalidFact) as caught:
                    wanted(rules_of(), *facts)
                self.assertEqual(caught.exception.index, 0)
            with self.assertRaises(InvalidFact) as caught:
                wanted(rules_of(), Present("a", A_ROW), Counted("a", {}, 99, None), value, value)
            self.assertEqual(caught.exception.index, 2)


def paper_of(rules, *facts):
    return paper(rules, *facts)


def checked(rules, *facts):
    return is_paper(rules, None, *facts)


def numbers_of(rules, *facts):
    return numbers(rules, "a", {}, 0, *facts)


class ErrorsTest(unittest.TestCase):
    """The errors of all functions that take facts."""

    def test_invalid_facts_come_first(self):
        for call in (possible, paper_of, checked, numbers_of):
            for value in [*any_values(), Present("z", A_ROW), Short(Total("a", 0, 1))]:
                with self.assertRaises(InvalidFact) as caught:
                    call(rules_of(*steps("ab")), Counted("a", {}, 99, None), value, value)
                self.assertEqual(caught.exception.index, 2 if call is numbers_of else 1)

    def test_16_are_let_and_17_are_not(self):
        pairs = [(rules_of(), 16), (rules_of(*steps("ab bc cd")), 4), (rules_of(Total("b", 2, None)), 14)]
        for rules, many in pairs:
            some = [Counted("a", {}, many, None), Counted("a", {}, 0, 0)]
            self.assertEqual(wanted(rules, *some), 16)
            self.assertIsNone(possible(rules, *some))
            self.assertIs(checked(rules, *some), False)
            self.assertEqual(numbers_of(rules, *some), ())
            more = [Counted("a", {}, 0, 0), Counted("a", {}, many, None), Missing("a", A_ROW), Present("b", A_ROW)]
            self.assertGreater(wanted(rules, *more), 16)
            for call in (possible, paper_of, checked, numbers_of):
                with self.assertRaises(TooMany) as caught:
                    call(rules, *more)
                self.assertEqual(caught.exception.limit, 16)

    def test_too_many_by_one_kind_alone(self):
        for fact in (Counted("a", {}, 17, None), Counted("a", {}, 10 ** 59, 10 ** 59)):
            with self.assertRaises(TooMany):
                possible(rules_of(), fact)
        with self.assertRaises(TooMany):
            possible(rules_of(), *[Present("a", A_ROW)] * 17)
        self.assertEqual(len(possible(rules_of(), *[Present("a", A_ROW)] * 16)), 1)
        with self.assertRaises(TooMany):
            possible(rules_of(Total("a", 2, None), *steps("ab ab bc cd", 2)))
