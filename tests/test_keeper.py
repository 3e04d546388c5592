"""Keepers of a database that they do not see [80] to [82]."""

import random
import unittest

from onlylooks.changes import Change
from onlylooks.errors import (
    InvalidAnswer, InvalidLimit, LookFailed, NeverFits, NoLook, Nothing, OtherSchema, Refused, TooDear, TooMany)
from onlylooks.fields import Field
from onlylooks.keeper import CountingHouse, Keeper
from onlylooks.looks import Look
from onlylooks.plans import depth, plan
from onlylooks.rules import Rules
from onlylooks.statements import Rule, Total
from onlylooks.tables import Schema, Table
from tests.anything import any_values
from tests.plain import Plain, kept
from tests.raising import raised
from tests.towns import change, filled, item, shop, town
from tests.worlds import Maker, all_rows

OWNED = Rule.reference("item", "shop", [("at", "id")])
KEY = Rule.key("item", "id")


class CallTest(unittest.TestCase):
    """[80]"""

    def test_told_by_looks(self):
        keeper, plain = kept(OWNED, KEY, item=[("a", "x", "big")], shop=[("x",)])
        self.assertEqual(keeper(change([item("b", "x")])), "kept")
        self.assertEqual(keeper(change([item("b", "y")])), "broken")
        self.assertEqual(keeper(change=change([item("a", "y")])), "broken")
        self.assertEqual(keeper(change([], [shop("x")])), "broken")
        self.assertEqual((plain.written, keeper.steps), ([], ()))
        self.assertIs(type(keeper(change())), str)

    def test_no_looks(self):
        keeper, plain = kept(OWNED, Total("item", 0, 0))
        self.assertEqual([keeper(change()), keeper(change([shop("x")])), keeper(change([item("a", "x")]))], ["kept", "kept", "broken"])
        self.assertEqual((plain.asked, keeper.looked), ([], ()))

    def test_the_looks_of_the_plan_one_after_the_other(self):
        for number in range(300):
            maker = Maker(random.Random(number))
            schema = maker.schema(3, 2, 3)
            rules, made = maker.rules(schema, 4), maker.change(schema, "bc")
            try:
                field = Field(rules, made)
            except TooMany:
                continue
            for answer in field.answers():
                database = field[answer]
                plain = Plain(schema, **{name: database[name] for name in schema.names})
                keeper = Keeper(rules, plain.look, plain.write)
                part, expected = plan(field), []
                while part[0] == "look":
                    expected.append((field.looks[part[1]], answer[part[1]]))
                    part = dict(part[2])[answer[part[1]]]
                self.assertEqual(keeper(made), part[0])
                self.assertEqual(part[0] == "kept", rules.keeps(made.on(database)))
                self.assertEqual(keeper.looked, tuple(expected))
                self.assertEqual(plain.asked, [look for look, _ in expected])
                self.assertLessEqual(len(expected), depth(plan(field)))
                self.assertEqual(plain.written, [])

    def test_looks_are_looks(self):
        keeper, plain = kept(OWNED, shop=[("x",)])
        keeper(change([item("b", "x")]))
        self.assertIsInstance(plain.asked[0], Look)
        self.assertEqual((plain.asked[0].table, plain.asked[0].words, plain.asked[0].most), ("shop", {"id": "x"}, 1))

    def test_errors_of_the_field(self):
        keeper, plain = kept(OWNED, shop=[("x",)])
        turned = Schema(town()["shop"], town()["item"])
        wide = Schema(Table("a", "id", ("k", ["p", "q", "r"]), ("m", ["p", "q", "r"])))
        rows = [("a", (name, "p", "p")) for name in "xyz"]
        wheres = [None, {"k": ["p"]}, {"m": ["p"]}, {"k": ["p", "q"]}]
        for call in ("__call__", "do"):
            keeper(change([item("b", "x")]))
            raised(OtherSchema, getattr(keeper, call), change([], [], turned))
            self.assertEqual(keeper.looked, ())
            for statements, limit in [(4, 200), (2, 16)]:
                many = Keeper(Rules(wide, *[Total("a", 0, 3, where=where) for where in wheres[:statements]]), plain.look, plain.write)
                self.assertEqual(raised(TooMany, getattr(many, call), Change(wide, [], rows)).limit, limit)
                self.assertEqual(many.looked, ())
            none, plain_none = kept(Total("item", 0, 0))
            raised(NeverFits, getattr(none, call), change([], [item("a", "x")]))
            self.assertEqual((plain_none.asked, plain_none.written, none.steps), ([], [], ()))


class DoTest(unittest.TestCase):
    """do and undo [80]"""

    def test_steps(self):
        keeper, plain = kept(OWNED)
        first, second = change([shop("x")]), change([item("a", "x")])
        self.assertIsNone(keeper.do(first))
        self.assertIsNone(keeper.do(change=second))
        self.assertEqual((plain.written, keeper.steps), ([first, second], (first, second)))
        self.assertEqual(plain.rows, {"item": {("a", "x", "big")}, "shop": {("x",)}})
        self.assertIs(type(keeper.steps), tuple)

    def test_refused(self):
        keeper, plain = kept(OWNED)
        made = change([item("a", "x")])
        self.assertIs(raised(Refused, keeper.do, made).change, made)
        self.assertEqual((plain.written, keeper.steps, len(keeper.looked)), ([], (), 1))

    def test_undo(self):
        keeper, plain = kept(OWNED)
        steps = [change([shop("x"), shop("y")]), change([item("a", "x")], [shop("y")])]
        for step in steps:
            keeper.do(step)
        plain.fresh()
        self.assertIsNone(keeper.undo())
        self.assertEqual((plain.written, keeper.steps), ([steps[1].contrary()], (steps[0],)))
        keeper.undo()
        self.assertEqual((plain.written, keeper.steps), ([each.contrary() for each in steps[::-1]], ()))
        self.assertEqual((plain.asked, plain.rows), ([], {"item": set(), "shop": set()}))
        raised(Nothing, keeper.undo)
        self.assertEqual(len(plain.written), 2)

    def test_nothing_to_undo(self):
        keeper, plain = kept(OWNED)
        raised(Nothing, keeper.undo)
        keeper(change([shop("x")]))
        raised(Refused, keeper.do, change([item("a", "x")]))
        raised(Nothing, keeper.undo)
        self.assertEqual(plain.written, [])

    def test_a_step_that_was_undone_may_be_done_again(self):
        keeper, plain = kept(OWNED)
        for _ in range(3):
            keeper.do(change([shop("x")]))
            keeper.undo()
        keeper.do(change([shop("x")]))
        keeper.do(change([shop("y")]))
        keeper.undo()
        self.assertEqual(keeper.steps, (change([shop("x")]),))

    def test_an_empty_change_is_a_step(self):
        keeper, plain = kept(OWNED)
        keeper.do(change())
        keeper.undo()
        self.assertEqual(plain.written, [change(), change()])


class LookedTest(unittest.TestCase):
    """[81]"""

    def test_after_each_method(self):
        keeper, plain = kept(OWNED, shop=[("x",)])
        self.assertEqual(keeper.looked, ())
        keeper(change([item("a", "x")]))
        asked = keeper.looked
        self.assertEqual([(type(asked), type(asked[0]), answer) for _, answer in asked], [(tuple, tuple, 1)])
        self.assertEqual(asked[0][0], plain.asked[0])
        keeper.allow(5)
        raised(InvalidLimit, keeper.allow, -1)
        raised(Nothing, keeper.undo)
        self.assertEqual(keeper.looked, asked)
        raised(Refused, keeper.do, change([item("a", "y")]))
        self.assertEqual([answer for _, answer in keeper.looked], [0])
        keeper.do(change([shop("z")]))
        self.assertEqual(keeper.looked, ())
        keeper.do(change([item("a", "x")]))
        self.assertEqual(keeper.looked, asked)
        keeper.undo()
        self.assertEqual(keeper.looked, ())

    def test_an_undo_that_has_nothing_leaves_it(self):
        keeper, plain = kept(OWNED, shop=[("x",)])
        keeper.do(change([item("a", "x")]))
        keeper.undo()
        keeper(change([item("a", "x")]))
        raised(Nothing, keeper.undo)
        self.assertEqual(len(keeper.looked), 1)

    def test_errors_ahead_of_any_look(self):
        keeper, plain = kept(OWNED, shop=[("x",)])
        turned = Schema(town()["shop"], town()["item"])
        none = Keeper(Rules(town(), Total("item", 0, 0), OWNED, Total("shop", 0, 3)), plain.look, plain.write)
        none(change([shop("y")]))
        self.assertEqual(len(none.looked), 1)
        raised(NeverFits, none, change([], [item("a", "x")]))
        self.assertEqual(none.looked, ())
        for wrong, error, limit in [(change([], [], turned), OtherSchema, None), (change([item("a", "x")]), TooDear, 0)]:
            for call in ("__call__", "do"):
                keeper.allow(None)
                keeper(change([item("a", "x")]))
                keeper.allow(limit)
                raised(error, getattr(keeper, call), wrong)
                self.assertEqual(keeper.looked, ())


class LimitTest(unittest.TestCase):
    """[81]"""

    def test_at_first_none(self):
        keeper, plain = kept()
        self.assertIsNone(keeper.most_looks)

    def test_allow(self):
        keeper, plain = kept()
        for value in (0, 1, 5, 10 ** 59, None, 3):
            self.assertIsNone(keeper.allow(value))
            self.assertEqual((keeper.most_looks, type(keeper.most_looks)), (value, type(value)))
        for value in any_values():
            if value is None or (type(value) is int and value >= 0):
                continue
            self.assertIs(raised(InvalidLimit, keeper.allow, value).value, value)
            self.assertEqual(keeper.most_looks, 3)
        keeper.allow(value=None)
        self.assertIsNone(keeper.most_looks)

    def test_exactly_if_the_plan_is_deeper(self):
        keeper, plain = kept(OWNED, KEY, shop=[("x",)])
        for made, deep in [(change(), 0), (change([shop("z")]), 0), (change([item("a", "x")]), 2), (change([item("a", "x"), item("b", "x")]), 3)]:
            for limit in (0, 1, 2, 3, None):
                keeper.allow(limit)
                plain.fresh()
                for call in (keeper, keeper.do):
                    if limit is None or limit >= deep:
                        call(made)
                    else:
                        self.assertEqual(raised(TooDear, call, made).number, deep)
                        self.assertEqual((plain.asked, plain.written, keeper.looked), ([], [], ()))
                if keeper.steps:
                    keeper.undo()

    def test_the_depth_counts_not_the_looks_that_would_be_asked(self):
        keeper, plain = kept(OWNED, KEY)
        keeper.allow(1)
        self.assertEqual(raised(TooDear, keeper, change([item("a", "x")])).number, 2)
        keeper.allow(2)
        self.assertEqual(keeper(change([item("a", "x")])), "broken")

    def test_never_fits_comes_first(self):
        keeper, plain = kept(Total("item", 0, 0))
        keeper.allow(0)
        raised(NeverFits, keeper, change([], [item("a", "x")]))

    def test_undo_needs_no_looks(self):
        keeper, plain = kept(OWNED, shop=[("x",)])
        keeper.do(change([item("a", "x")]))
        keeper.allow(0)
        keeper.undo()
        self.assertEqual(keeper.steps, ())


class WrongLooksTest(unittest.TestCase):
    """[82]"""

    def made(self):
        keeper, plain = kept(OWNED, KEY, item=[("b", "x", "big")], shop=[("x",)])
        return keeper, plain, change([item("a", "x"), item("c", "x")])

    def test_look_failed(self):
        for call in ("__call__", "do"):
            for number in range(3):
                keeper, plain, made = self.made()
                cause = NoLook(["x"])
                keeper(made)
                right = keeper.looked
                plain.fresh()
                plain.instead = {number: cause}
                error = raised(LookFailed, getattr(keeper, call), made)
                self.assertEqual(error.number, number)
                self.assertIs(error.__cause__, cause)
                self.assertEqual(keeper.looked, right[:number])
                self.assertEqual((len(plain.asked), plain.written, keeper.steps), (number + 1, [], ()))
                plain.instead = {}
                keeper.do(made)
                self.assertEqual(keeper.steps, (made,))

    def test_the_number_is_counted_anew_in_each_call(self):
        keeper, plain, made = self.made()
        keeper(made)
        plain.instead = {len(plain.asked): NoLook(None)}
        self.assertEqual(raised(LookFailed, keeper, made).number, 0)

    def test_invalid_answers(self):
        for call in ("__call__", "do"):
            for number in range(3):
                keeper, plain, made = self.made()
                keeper(made)
                right = keeper.looked
                for value in [*any_values(), True, False, -1, 10 ** 59, "1", b"1", 1.0]:
                    most = right[number][0].most
                    if type(value) is int and 0 <= value <= most:
                        continue
                    plain.fresh()
                    plain.instead = {number: value}
                    self.assertIs(raised(InvalidAnswer, getattr(keeper, call), made).value, value)
                    self.assertEqual((keeper.looked, len(plain.asked), plain.written, keeper.steps), (right[:number], number + 1, [], ()))

    def test_more_than_the_most(self):
        keeper, plain = kept(OWNED)
        plain.instead = {0: 2}
        self.assertEqual(raised(InvalidAnswer, keeper, change([item("a", "x")])).value, 2)

    def test_an_answer_without_a_branch(self):
        # Taking an item: it is there, so at least one is counted.
        keeper, plain = kept(Total("item", 1, None), item=[("a", "x", "big")])
        made = change([], [item("a", "x")])
        self.assertEqual(keeper(made), "broken")
        self.assertEqual(keeper.looked[0][0].most, 2)
        plain.fresh()
        plain.instead = {0: 0}
        for call in (keeper, keeper.do):
            plain.fresh()
            plain.instead = {0: 0}
            self.assertEqual(raised(InvalidAnswer, call, made).value, 0)
            self.assertEqual((keeper.looked, plain.written), ((), []))

    def test_other_errors_of_look_go_on(self):
        keeper, plain, made = self.made()
        plain.instead = {0: KeyError("k")}
        raised(KeyError, keeper, made)


class HistoryTest(unittest.TestCase):
    """[4]: what a plan tells is kept exactly if all rules hold behind the change, behind any history."""

    def test_histories(self):
        verdicts = {"kept": 0, "broken": 0}
        for number in range(120):
            maker = Maker(random.Random(number))
            schema = maker.schema(2, 2, 3)
            rules = maker.rules(schema, 4)
            house = CountingHouse(rules, filled(schema)) if rules.keeps(filled(schema)) else None
            for _ in range(12 if house else 0):
                made = maker.change(schema, "bc")
                there = house.database
                rows = all_rows(schema, "bc")
                put = [entry for entry in rows if entry in [*made.put_rows, *made.taken_rows] and entry[1] not in there[entry[0]]]
                taken = [entry for entry in rows if entry in [*made.put_rows, *made.taken_rows] and entry[1] in there[entry[0]]]
                made = Change(schema, put, taken)
                try:
                    told = house(made)
                except TooMany:
                    continue
                expected = rules.keeps(made.on(there))
                self.assertEqual(told == "kept", expected)
                verdicts[told] += 1
                if expected:
                    house.do(made)
                    self.assertEqual(house.database, made.on(there))
                else:
                    raised(Refused, house.do, made)
                    self.assertEqual(house.database, there)
                if maker.source.random() < 0.2 and house.steps:
                    house.undo()
                self.assertTrue(rules.keeps(house.database))
        self.assertGreater(min(verdicts.values()), 150)


class ErrorsTest(unittest.TestCase):
    def test_a_keeper_keeps_what_it_is_given(self):
        keeper, plain = kept(OWNED)
        self.assertEqual(keeper.rules, Rules(town(), OWNED))
        plain_two = Plain(town())
        named = Keeper(write=plain_two.write, rules=keeper.rules, look=plain_two.look)
        named.do(change([shop("x")]))
        self.assertEqual(plain_two.rows["shop"], {("x",)})
        self.assertEqual((keeper == plain, keeper == 1, keeper != None), (False, False, True))
