"""Tests of a field [55] to [57]."""

import unittest

from onlylooks.changes import Change
from onlylooks.choosing import fewest_tests, is_test, leads, least_test, needed
from onlylooks.errors import OutOfRange, TooMany
from onlylooks.fields import Field
from onlylooks.rules import Rules
from onlylooks.statements import Rule, Total
from onlylooks.tables import Schema, Table
from tests.anything import any_values
from tests.samples import always, fields, never, owners, stock, unfit
from tests.towns import subsets, town

OWNED = Rule.reference("item", "shop", [("at", "id")])


def held(field, answer):
    """The indexes of the demands that hold for an answer, told by the database that gives it."""
    return [number for number, demand in enumerate(field.demands) if demand(field[answer])]


def counted(field, numbers):
    """Whether numbers are a test, by a count of all answers."""
    for answer in field.answers():
        holding = held(field, answer)
        if set(numbers) <= set(holding) and len(holding) < len(field.demands):
            return False
    return True


def own_least(field):
    """The least test by leaving out from the last to the first."""
    left = [number for number in range(len(field.demands)) if field.standing(number) == "open"]
    for number in list(left)[::-1]:
        if counted(field, [each for each in left if each != number]):
            left.remove(number)
    return tuple(left)


def references(many, places, more=()):
    """A field with a number of equal references at each of some places."""
    put = [("item", (word, word, "big")) for word in "abc"[:places]]
    return Field(Rules(town(), *[OWNED] * many, *more), Change(town(), put, []))


class IsTestTest(unittest.TestCase):
    """[55]"""

    def test_the_example(self):
        field = Field(*owners())
        self.assertEqual([is_test(field, some) for some in ([], [0], [1], [0, 1], [1, 0], (0, 1))],
                         [False, False, False, True, True, True])

    def test_held_against_a_count_of_the_answers(self):
        seen = {True: 0, False: 0}
        for field in fields(range(700)):
            if len(field.demands) <= 5:
                for some in subsets(range(len(field.demands))):
                    expected = counted(field, some)
                    self.assertIs(is_test(field, some), expected)
                    self.assertIs(is_test(numbers=tuple(some[::-1]), field=field), expected)
                    seen[expected] += 1
        self.assertGreater(min(seen.values()), 300)

    def test_of_an_empty_field_each_list_is_one(self):
        for some in ([], [0]):
            self.assertIs(is_test(unfit(), some), True)
        with self.assertRaises(OutOfRange):
            is_test(unfit(), [1])

    def test_where_no_answer_is_kept(self):
        self.assertEqual([is_test(never(), some) for some in ([], [0])], [False, True])

    def test_where_each_answer_is_kept(self):
        self.assertEqual([is_test(always(), some) for some in ([], [0])], [True, True])

    def test_wrong_entries_of_any_kind(self):
        for field in (Field(*owners()), unfit(), never(), always()):
            many = len(field.demands)
            wrong = [value for value in any_values() if type(value) is not int or not 0 <= value < many]
            for value in [*wrong, many, -1]:
                for numbers in ([value], [0, value], (0, value, value, None)):
                    with self.assertRaises(OutOfRange) as caught:
                        is_test(field, numbers)
                    self.assertIs(caught.exception.value, value)

    def test_the_first_wrong_entry_is_told(self):
        field = Field(*owners())
        for numbers, value in [([0, 0], 0), ([1, 0, 1, 0], 1), ([0, 1, 0, 1], 0), ([0, 2, 0], 2), ([0, 0, 2], 0),
                               ([0, False], False), ([0, True], True), ([1, -1, 1], -1), ([0, 1, "x", 0], "x")]:
            with self.assertRaises(OutOfRange) as caught:
                is_test(field, numbers)
            self.assertEqual((caught.exception.value, type(caught.exception.value)), (value, type(value)))

    def test_the_list_is_left_as_it_was(self):
        numbers = [1, 0]
        is_test(Field(*owners()), numbers)
        self.assertEqual(numbers, [1, 0])


class LeastTestTest(unittest.TestCase):
    """[55]"""

    def test_verdicts(self):
        self.assertIsNone(least_test(unfit()))
        self.assertIsNone(least_test(never()))
        self.assertEqual(least_test(always()), ())
        self.assertEqual(least_test(Field(*owners())), (0, 1))
        self.assertEqual(least_test(Field(Rules(town()), Change(town(), [], []))), ())

    def test_from_the_last_to_the_first(self):
        # Two equal demands: the last one is left out.
        self.assertEqual(least_test(references(2, 1)), (0,))
        self.assertEqual(least_test(references(3, 2)), (0, 1))
        # Where at most two items are let, a bound of three is sure: only the closer ones are open.
        put = [("item", ("a", "x", "big"))]
        for bounds, expected in [((2, 3), (0,)), ((3, 2), (1,)), ((3, 2, 2), (1,)), ((2, 3, 2), (0,))]:
            rules = Rules(town(), *[Total("item", 0, most) for most in bounds])
            self.assertEqual(least_test(Field(rules, Change(town(), put, []))), expected)

    def test_held_against_an_own_leaving_out(self):
        seen = set()
        for field in fields(range(1200)):
            told = least_test(field)
            if field.verdict in ("unfit", "never"):
                self.assertIsNone(told)
            else:
                self.assertEqual(told, own_least(field))
                self.assertIs(type(told), tuple)
                self.assertIs(is_test(field, told), True)
                seen.add((field.verdict, len(told)))
        self.assertGreaterEqual(seen, {("always", 0), ("open", 1), ("open", 2), ("open", 3)})

    def test_many_open_demands_are_let(self):
        self.assertEqual(least_test(references(4, 3)), (0, 1, 2))


class NeededTest(unittest.TestCase):
    """[56]"""

    def test_the_example(self):
        self.assertEqual(needed(Field(*owners())), ((0, 0), (1, 2)))

    def test_none_with_the_least_test(self):
        self.assertEqual([needed(unfit()), needed(never()), needed(always())], [None, None, ()])

    def test_the_first_answer_for_each_demand(self):
        seen = 0
        for number, field in enumerate(fields(range(1200))):
            test = least_test(field)
            if test is None:
                self.assertIsNone(needed(field))
                continue
            told = needed(field)
            self.assertEqual((type(told), len(told)), (tuple, len(test)))
            for left_out, answer in zip(test, told):
                others = set(test) - {left_out}
                right = [each for each in field.answers() if others <= set(held(field, each)) and left_out not in held(field, each)]
                self.assertEqual(answer, right[0])
                self.assertIs(field.is_kept(answer), False)
                seen += 1
        self.assertGreater(seen, 100)

    def test_shown_by_databases(self):
        """Without the demand all others hold, and behind the change the rules are broken."""
        rules, change = owners()
        field = Field(rules, change)
        for left_out, answer in zip(least_test(field), needed(field)):
            database = field[answer]
            self.assertTrue(rules.keeps(database))
            self.assertEqual([demand(database) for demand in field.demands],
                             [number != left_out for number in range(len(field.demands))])
            self.assertFalse(rules.keeps(change.on(database)))


class LeadsTest(unittest.TestCase):
    """[56]"""

    def test_all_pairs(self):
        seen = {True: 0, False: 0}
        for field in fields(range(700)):
            holding = [held(field, answer) for answer in field.answers()]
            for one in range(len(field.demands)):
                for other in range(len(field.demands)):
                    expected = all(other in some for some in holding if one in some)
                    self.assertIs(leads(field, one, other), expected)
                    seen[expected] += one != other
        self.assertGreater(min(seen.values()), 100)

    def test_one_follows_from_another(self):
        rules = Rules(town(), Total("item", 0, 3), Total("item", 0, 2, where={"kind": ["big"]}), Total("item", 0, 1))
        field = Field(rules, Change(town(), [("item", ("a", "x", "big"))], []))
        self.assertEqual([leads(field, 2, 1), leads(field, 1, 2), leads(other=0, one=2, field=field)], [True, False, True])

    def test_of_an_empty_field(self):
        self.assertIs(leads(unfit(), 0, 0), True)

    def test_the_first_of_both_that_is_no_index(self):
        for field in (Field(*owners()), unfit(), never()):
            many = len(field.demands)
            for value in [*any_values(), many]:
                if type(value) is int and 0 <= value < many:
                    continue
                for one, other in [(value, 0), (0, value), (value, "x")]:
                    with self.assertRaises(OutOfRange) as caught:
                        leads(field, one, other)
                    self.assertIs(caught.exception.value, value)


class FewestTestsTest(unittest.TestCase):
    """[57]"""

    def test_verdicts(self):
        self.assertEqual([fewest_tests(unfit()), fewest_tests(never()), fewest_tests(always())], [None, None, [()]])
        self.assertEqual(fewest_tests(Field(*owners())), [(0, 1)])
        self.assertEqual(fewest_tests(Field(Rules(town()), Change(town(), [], []))), [()])

    def test_all_of_one_size(self):
        self.assertEqual(fewest_tests(references(2, 1)), [(0,), (1,)])
        self.assertEqual(fewest_tests(references(2, 2)), [(0, 1), (0, 3), (1, 2), (2, 3)])

    def test_held_against_all_sets_of_demands(self):
        seen = set()
        for field in fields(range(1200)):
            if len(field.demands) > 6:
                continue
            told = fewest_tests(field)
            if field.verdict in ("unfit", "never"):
                self.assertIsNone(told)
                continue
            right = [tuple(some) for some in subsets(range(len(field.demands))) if counted(field, some)]
            self.assertEqual(told, sorted(some for some in right if len(some) == len(right[0])))
            self.assertIs(type(told), list)
            seen.add((len(told[0]), len(told) > 1))
        self.assertGreaterEqual(seen, {(0, False), (1, False), (1, True), (2, False)})

    def test_new_lists(self):
        field = Field(*owners())
        fewest_tests(field).append(())
        self.assertEqual(fewest_tests(field), [(0, 1)])

    def test_eight_open_demands_are_let(self):
        told = fewest_tests(references(4, 2))
        # One of four equal demands for each of two places.
        self.assertEqual(told, sorted(tuple(sorted((2 * one, 2 * other + 1))) for one in range(4) for other in range(4)))

    def big(self, field):
        with self.assertRaises(TooMany) as caught:
            fewest_tests(field)
        self.assertEqual(caught.exception.limit, 8)

    def test_nine_are_not(self):
        field = references(3, 3)
        self.assertEqual([field.standing(number) for number in range(len(field.demands))], ["open"] * 9)
        self.big(field)

    def test_sure_demands_do_not_count(self):
        field = references(4, 2, [Total("item", 1, None)])
        self.assertEqual((len(field.demands), field.standing(8)), (9, "sure"))
        self.assertEqual(len(fewest_tests(field)), 16)

    def test_too_many_comes_ahead_of_none(self):
        full = [Total("item", 0, 0)]
        field = references(3, 3, full)
        self.assertEqual(field.verdict, "never")
        self.big(field)
        self.assertIsNone(fewest_tests(references(4, 2, full)))
        self.assertIsNone(fewest_tests(references(3, 3, [Total("shop", 1, None), Total("shop", 0, 0)])))


class NamesTest(unittest.TestCase):
    def test_tests_do_not_hang_on_names(self):
        one, other = Field(*owners()), Field(*owners(("q", "r")))
        self.assertEqual(least_test(one), least_test(other))
        self.assertEqual(needed(one), needed(other))

    def test_several_tables(self):
        field = stock((0, 2, 1, 0), (0, 2, 1, 0), (0, 3, 0, 1))
        self.assertEqual([field.standing(number) for number in range(3)], ["open", "open", "sure"])
        self.assertEqual((least_test(field), needed(field)), ((0, 1), ((2, 0, 1), (0, 2, 1))))

    def test_schemas_of_one_table(self):
        schema = Schema(Table("t", "a"))
        field = Field(Rules(schema, Rule.key("t", "a")), Change(schema, [("t", ("x",))], []))
        self.assertEqual((field.verdict, least_test(field)), ("always", ()))
