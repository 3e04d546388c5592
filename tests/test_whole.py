"""What the document promises over the whole program: [2], [3], [4]."""

import os
import random
import subprocess
import sys
import unittest
from pathlib import Path

from onlylooks import kinds
from onlylooks.changes import Change
from onlylooks.choosing import fewest_tests, is_test, leads, least_test, needed
from onlylooks.couples import helps, in_any_order, spoils, together
from onlylooks.databases import Database
from onlylooks.demands import demands
from onlylooks.desks import Desk
from onlylooks.errors import TooMany
from onlylooks.facts import Counted, Long, Missing, Present, Short
from onlylooks.fields import Field
from onlylooks.follows import barren, core, covers, follows, needless
from onlylooks.keeper import CountingHouse, CountingKeeper, House, Keeper
from onlylooks.kinds import Template, depths, names_of
from onlylooks.looks import looks
from onlylooks.mending import mended, must_go
from onlylooks.papers import is_paper, paper
from onlylooks.plans import are_enough, at_once, decided, depth, is_plan, is_resistance, plan, resistance
from onlylooks.possible import numbers, possible, wanted
from onlylooks.rules import Rules
from onlylooks.statements import Rule, Total
from onlylooks.tables import Schema, Table
from onlylooks.texts import read_rows, read_rules, show_rows, show_rules
from tests.anything import any_values, is_plain
from tests.samples import problems
from tests.towns import change, filled, house, item, shop, town
from tests.worlds import Maker, all_rows, databases

ROOT = Path(__file__).resolve().parent.parent
OWNED = Rule.reference("item", "shop", [("at", "id")])
FEW = Rule.at_most("shop", "item", [("id", "at")], 1, other_where={"kind": ["big"]})


def rules():
    return Rules(town(), Rule.key("item", "id"), OWNED, FEW, Total("shop", 0, 2))


def field():
    return Field(rules(), change([item("a", "x")]))


def calls():
    """The tuples (function, arguments) of one right call of each function, all arguments made anew."""
    first, second = change([item("a", "x")]), change([shop("x")])
    open_field = field()
    answers = open_field.answers()
    made = plan(open_field)
    kind = Template([("item", (0, 1, "big"))], [])
    return [
        (possible, [rules(), Present("shop", ("x",))]), (wanted, [rules(), Missing("shop", ("x",))]),
        (numbers, [rules(), "item", {"kind": ["big"]}, 3, Counted("item", {}, 1, 2)]),
        (paper, [rules(), Present("item", ("a", "x", "big")), Missing("shop", ("x",))]),
        (is_paper, [rules(), ("closed", 0, 0), Short(OWNED)]), (follows, [rules(), Total("item", 0, 2)]),
        (covers, [rules(), Rules(town(), OWNED)]), (needless, [rules()]), (core, [rules()]), (barren, [rules()]),
        (demands, [rules(), first]), (looks, [rules(), first]), (Field, [rules(), first]),
        (is_test, [open_field, [0, 1]]), (least_test, [open_field]), (needed, [open_field]), (leads, [open_field, 0, 1]),
        (fewest_tests, [open_field]), (is_plan, [open_field, made]), (depth, [made]), (plan, [open_field]),
        (decided, [open_field, made, lambda look: 0]), (resistance, [open_field, 1]),
        (is_resistance, [open_field, 0, ("apart", answers[0], answers[-1])]), (are_enough, [open_field, [0, 1]]),
        (at_once, [open_field]), (names_of, [first]), (kinds.tests, [rules(), kind]), (depths, [rules(), kind]),
        (together, [first, second]), (spoils, [rules(), first, second]), (helps, [rules(), second, first]),
        (in_any_order, [rules(), first, second]), (mended, [rules(), house(), change([item("c", "y", "small")])]),
        (must_go, [rules(), house(), [shop("x")]]), (show_rules, [rules()]), (read_rules, [show_rules(rules())]),
        (show_rows, [house()]), (read_rows, [town(), show_rows(house())]),
    ]


def shown(value):
    """What can be seen of a value: objects of the package are told by their properties."""
    if isinstance(value, Database):
        return ("database", show_rows(value))
    if isinstance(value, Rules):
        return ("rules", show_rules(value))
    if isinstance(value, Schema):
        return ("schema", show_rules(Rules(value)))
    if isinstance(value, Field):
        return ("field", value.answers(), shown(value.looks), shown(value.demands), [shown(value[answer]) for answer in value.answers()])
    if isinstance(value, (list, tuple)):
        return (value.__class__.__name__, [shown(each) for each in value])
    if isinstance(value, dict):
        return ("dict", [(shown(key), shown(each)) for key, each in value.items()])
    if value.__class__.__module__.startswith("onlylooks"):
        told = [name for name in dir(value.__class__) if isinstance(getattr(value.__class__, name), property)]
        return (value.__class__.__name__, [(name, shown(getattr(value, name))) for name in told])
    return "call" if callable(value) else repr(value)


class CallsTest(unittest.TestCase):
    """[2]"""

    def test_arguments_are_left_as_they_were(self):
        for call, arguments in calls():
            with self.subTest(call.__name__):
                before = shown(arguments)
                call(*arguments)
                self.assertEqual(shown(arguments), before)

    def test_equal_calls_on_equal_objects(self):
        for (call, one), (_, other) in zip(calls(), calls()):
            with self.subTest(call.__name__):
                self.assertEqual(shown(call(*one)), shown(call(*other)))

    def test_kinds_of_results(self):
        seen = set()
        for call, arguments in calls():
            told = call(*arguments)
            if not told.__class__.__module__.startswith("onlylooks") and call not in (demands, looks):
                self.assertTrue(is_plain(told) or type(told) is bytes, call.__name__)
                seen.add(type(told))
        self.assertEqual(seen, {type(None), bool, bytes, dict, int, list, str, tuple})

    def test_lists_and_dicts_that_are_returned_are_new(self):
        kind = Template([("item", (0, 1, "big"))], [])
        open_field = field()
        for call in (lambda: kinds.tests(rules(), kind), lambda: depths(rules(), kind), lambda: fewest_tests(open_field), lambda: at_once(open_field),
                     lambda: kind.cases(), lambda: open_field.answers(), lambda: OWNED.counts(house())):
            one = call()
            one.clear()
            self.assertTrue(call())

    def test_methods_without_a_result(self):
        desk = Desk(rules(), house())
        self.assertEqual([desk.allow(3), desk.do(change([shop("z")])), desk.undo()], [None, None, None])

    def test_tuples_in_the_place_of_lists(self):
        self.assertEqual(Change(town(), (item("a", "x"),), ()), change([item("a", "x")]))
        self.assertEqual(Rule("item", "shop", (("at", "id"),), 1, None, where={"kind": ("big",)}), Rule("item", "shop", [("at", "id")], 1, None, where={"kind": ["big"]}))
        self.assertEqual(Table("t", ("k", ("p", "q"))), Table("t", ("k", ["p", "q"])))
        self.assertEqual(must_go(rules(), house(), (shop("x"),)), must_go(rules(), house(), [shop("x")]))

    def test_no_object_is_equal_to_a_value_of_another_kind(self):
        desk = Desk(rules(), house())
        objects = [town(), town()["item"], house(), OWNED, FEW, rules(), Present("t", 1), Missing("t", 1), Counted("t", {}, 0, 1), Short(1), Long(1),
                   change(), demands(rules(), change([item("a", "x")]))[0], looks(rules(), change([item("a", "x")]))[0], field(), Template([], []),
                   Keeper(rules(), None, None), CountingKeeper(rules(), None, None), House(rules(), house()), CountingHouse(rules(), house()), desk]
        for at, one in enumerate(objects):
            for value in [*any_values(), *[each for where, each in enumerate(objects) if where != at]]:
                self.assertIs(one == value, False)
                self.assertIs(one != value, True)
                self.assertIs(value == one, False)
            self.assertIs(one == one, True)
            self.assertIs(one != one, False)


class MainPromiseTest(unittest.TestCase):
    """[4], by a count of everything over all small databases."""

    def test_the_plan_tells_kept_exactly_if_the_rules_hold_behind_the_change(self):
        told = {"kept": 0, "broken": 0}
        for number in range(260):
            maker = Maker(random.Random(number))
            schema = maker.schema()
            some, made = maker.rules(schema), maker.change(schema, ["b", "c"])
            if len(all_rows(schema, "bcx")) > 9:
                continue
            try:
                asked = Field(some, made)
            except TooMany:
                continue
            best = plan(asked) if asked.verdict != "unfit" else None
            for database in databases(schema, "bcx", 5):
                if some.keeps(database) and made.fits(database):
                    verdict = decided(asked, best, lambda look: look(database))
                    self.assertEqual(verdict == "kept", some.keeps(made.on(database)))
                    told[verdict] += 1
        self.assertGreater(min(told.values()), 200)

    def test_each_demand_of_a_least_test_is_needed(self):
        seen = 0
        for number, some, made, asked in problems(range(600)):
            for left_out, answer in zip(least_test(asked) or (), needed(asked) or ()):
                database = asked[answer]
                self.assertTrue(some.keeps(database) and made.fits(database))
                self.assertFalse(asked.demands[left_out](database))
                self.assertTrue(all(asked.demands[each](database) for each in least_test(asked) if each != left_out))
                self.assertFalse(some.keeps(made.on(database)))
                seen += 1
        self.assertGreater(seen, 60)

    def test_each_number_of_looks_is_the_least(self):
        """A resistance shows two databases of unlike verdicts, whatever fewer looks tell."""
        seen = 0
        for number, some, made, asked in problems(range(600)):
            if asked.verdict == "open":
                many = depth(plan(asked))
                self.assertTrue(is_resistance(asked, many - 1, resistance(asked, many - 1)))
                self.assertIsNone(resistance(asked, many))
                seen += 1
        self.assertGreater(seen, 60)


SCRIPT = """
import sys
sys.path.insert(0, sys.argv[1])
from tests.test_whole import calls, shown
for call, arguments in calls():
    print(call.__name__, shown(call(*arguments)))
"""


class NothingElseTest(unittest.TestCase):
    """[2]: nothing depends on time, randomness or files."""

    def test_the_same_whatever_strings_are_hashed_to(self):
        told = []
        for seed in ("0", "1", "77"):
            given = {**os.environ, "PYTHONHASHSEED": seed, "PYTHONDONTWRITEBYTECODE": "1"}
            told.append(subprocess.run([sys.executable, "-c", SCRIPT, str(ROOT)], env=given, capture_output=True, text=True, check=True).stdout)
        self.assertGreater(len(told[0]), 2000)
        self.assertEqual(told[0], told[1])
        self.assertEqual(told[0], told[2])

    def test_a_filled_database(self):
        self.assertEqual(read_rows(town(), show_rows(house())), filled(town(), item=[("a", "x", "small"), ("b", "x", "big")], shop=[("x",)]))
