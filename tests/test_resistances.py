"""Resistances: what shows that no plan with few looks decides a field [63]."""

import unittest

from onlylooks.changes import Change
from onlylooks.fields import Field
from onlylooks.plans import depth, is_resistance, plan, resistance
from onlylooks.rules import Rules
from tests.anything import any_values, is_plain
from tests.bending import bent
from tests.samples import always, fields, never, owners, stock, unfit, wide
from tests.towns import town

EXAMPLE = ("answers", ((1, ("apart", (1, 0), (1, 2))), (0, ("apart", (0, 0), (1, 0)))))


def own_is_resistance(field, many, value, told):
    """By the words of the document; told is a dict from looks to their values."""
    if type(value) is not tuple or not value or type(value[0]) is not str:
        return False
    if many == 0:
        return own_is_apart(field, value, told)
    if len(told) == len(field.looks) or len(value) != 2 or value[0] != "answers":
        return False
    entries = value[1]
    if type(entries) is not tuple or len(entries) != len(field.looks):
        return False
    for number, entry in enumerate(entries):
        if number in told:
            if entry is not None:
                return False
        elif type(entry) is not tuple or len(entry) != 2 or type(entry[0]) is not int:
            return False
        elif not own_is_resistance(field, many - 1, entry[1], {**told, number: entry[0]}):
            return False
    return True


def own_is_apart(field, value, told):
    if len(value) != 3 or value[0] != "apart":
        return False
    for answer in value[1:]:
        if type(answer) is not tuple or not all(type(each) is int for each in answer) or answer not in field.answers():
            return False
        if any(answer[number] != told[number] for number in told):
            return False
    return field.is_kept(value[1]) != field.is_kept(value[2])


class ResistanceTest(unittest.TestCase):
    def test_the_example(self):
        field = Field(*owners())
        self.assertIsNone(resistance(field, 2))
        self.assertIs(is_resistance(field, 1, EXAMPLE), True)
        self.assertIs(is_resistance(value=EXAMPLE, many=1, field=field), True)
        self.assertTrue(own_is_resistance(field, 1, resistance(many=1, field=field), {}))

    def test_none_exactly_if_a_plan_is_no_deeper(self):
        seen = set()
        for field in fields(range(1500)):
            deep = 0 if field.verdict == "unfit" else depth(plan(field))
            for many in range(len(field.looks) + 2):
                told = resistance(field, many)
                self.assertEqual(told is None, deep <= many)
                if told is not None:
                    self.assertTrue(own_is_resistance(field, many, told, {}))
                    self.assertIs(is_resistance(field, many, told), True)
                    self.assertTrue(is_plain(told))
                    self.assertIs(is_resistance(field, many + 1, told), False)
                    seen.add(many)
        self.assertGreaterEqual(seen, {0, 1, 2})

    def test_of_0(self):
        field = Field(*owners())
        told = resistance(field, 0)
        self.assertEqual((len(told), told[0]), (3, "apart"))
        self.assertNotEqual(field.is_kept(told[1]), field.is_kept(told[2]))
        for one in field.answers():
            for other in field.answers():
                self.assertIs(is_resistance(field, 0, ("apart", one, other)), field.is_kept(one) != field.is_kept(other))

    def test_only_open_fields_resist(self):
        for field in (unfit(), never(), always(), Field(Rules(town()), Change(town(), [], []))):
            for many in (0, 1, 2, 100, 10 ** 59):
                self.assertIsNone(resistance(field, many))
                for value in (EXAMPLE, ("apart", (1,), (2,)), ("apart", (), ()), ("answers", ())):
                    self.assertIs(is_resistance(field, many, value), False)

    def test_great_numbers(self):
        field = Field(*owners())
        for many in (3, 50, 10 ** 59):
            self.assertIsNone(resistance(field, many))
            self.assertIs(is_resistance(field, many, EXAMPLE), False)

    def test_the_most_looks(self):
        for field, many in [(stock((0, 1, 1, 0), (0, 1, 1, 0), (0, 1, 1, 0)), 3), (wide(), 6)]:
            told = resistance(field, many - 1)
            self.assertTrue(own_is_resistance(field, many - 1, told, {}))
            self.assertIs(is_resistance(field, many - 1, told), True)
            self.assertIsNone(resistance(field, many))

    def test_values_of_any_kind(self):
        for field in (Field(*owners()), unfit(), always()):
            for value in [*any_values(), "apart", ("apart",), ("apart", (0, 0)), ["apart", (0, 0), (1, 0)], ("answers",),
                          ("answers", None), ("answers", ()), ("answers", [None, None]), ("answers", (None, None)),
                          ("answers", ((), ())), ("answers", {0: 1}), ("apart", [0, 0], [1, 0]), ("apart", None, None)]:
                for many in (0, 1, 2):
                    self.assertIs(is_resistance(field, many, value), False, value)

    def test_truths_in_the_place_of_numbers(self):
        field = Field(*owners())
        for value in [("apart", (False, 0), (1, 0)), ("apart", (0, 0), (True, 0)), ("apart", (0, False), (1, 0))]:
            self.assertIs(is_resistance(field, 0, value), False)
        one, other = EXAMPLE[1]
        for entries in [((True, one[1]), other), (one, (False, other[1])), ((1, ("apart", (True, 0), (1, 2))), other)]:
            self.assertIs(is_resistance(field, 1, ("answers", entries)), False)

    def test_values_that_the_answers_do_not_have(self):
        field = Field(*owners())
        for entry in [(0, ("apart", (1, 0), (1, 2))), (1, ("apart", (0, 0), (1, 0))), (2, ("apart", (1, 0), (1, 2))),
                      (1, ("apart", (1, 0), (1, 1))), (1, ("apart", (1, 0), (1, 3)))]:
            self.assertIs(is_resistance(field, 1, ("answers", (entry, EXAMPLE[1][1]))), False)

    def test_only_if_some_look_has_not_told_its_value(self):
        field = Field(*owners())
        none = ("answers", (None, None))
        deep = ("answers", ((1, ("answers", (None, (0, none)))), (0, ("answers", ((0, none), None)))))
        for many in (1, 2, 3, 4):
            self.assertIs(is_resistance(field, many, none), False)
            self.assertIs(is_resistance(field, many, deep), False)
        empty = Field(Rules(town()), Change(town(), [], []))
        self.assertIs(is_resistance(empty, 1, ("answers", ())), False)

    def test_one_thing_otherwise(self):
        seen = {True: 0, False: 0}
        for field in [*fields(range(1200)), Field(*owners())]:
            if field.verdict != "open" or len(field) > 30:
                continue
            for many in range(3):
                told = resistance(field, many)
                if told is None or (many == 2 and len(field.looks) > 3):
                    break
                for value in bent(told):
                    expected = own_is_resistance(field, many, value, {})
                    self.assertIs(is_resistance(field, many, value), expected, value)
                    seen[expected] += 1
        self.assertGreater(min(seen.values()), 100)

    def test_nested_a_hundred_deep(self):
        field = Field(*owners())
        for levels in (98, 120):
            value = ("apart", (1, 0), (1, 2))
            for _ in range(levels):
                value = ("answers", ((1, value), (0, value)))
            for many in (0, 1, 2, levels - 1, levels, levels + 1):
                self.assertIs(is_resistance(field, many, value), False)
        value = "x"
        for _ in range(100):
            value = (value,)
        self.assertIs(is_resistance(field, 1, ("answers", ((1, value), EXAMPLE[1][1]))), False)
        self.assertIs(is_resistance(field, 1, ("answers", ((1, ("apart", value, (1, 2))), EXAMPLE[1][1]))), False)
