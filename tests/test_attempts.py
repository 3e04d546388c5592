"""What a keeper does within attempts [83], and how it counts [84]."""

import unittest

from onlylooks.errors import (
    InvalidAnswer, InvalidLimit, LookFailed, Misfit, NoLook, Nothing, OtherSchema, Refused, TooDear, UnknownTable)
from onlylooks.keeper import CountingHouse, CountingKeeper, House, Keeper
from onlylooks.rules import Rules
from onlylooks.statements import Rule
from onlylooks.tables import Schema, Table
from tests.anything import any_values
from tests.plain import kept
from tests.raising import raised
from tests.test_errors import each_error
from tests.towns import change, filled, item, shop, town

OWNED = Rule.reference("item", "shop", [("at", "id")])
KEY = Rule.key("item", "id")


class AttemptTest(unittest.TestCase):
    """[83]"""

    def made(self, kind=Keeper):
        keeper, plain = kept(OWNED, shop=[("x",)], kind=kind)
        keeper.do(change([shop("first")]))
        plain.fresh()
        return keeper, plain

    def steps(self, *names):
        return [change([shop(name)]) for name in names]

    def test_the_keeper_itself_is_handed(self):
        keeper, plain = self.made()
        seen = []
        def call(given):
            seen.append(given)
            return True
        self.assertIs(keeper.attempt(call), True)
        self.assertIs(keeper.attempt(call=call), True)
        self.assertEqual([each is keeper for each in seen], [True, True])

    def test_true_itself(self):
        keeper, plain = self.made()
        first = keeper.steps
        one, other = self.steps("a", "b")
        def call(given):
            given.do(one)
            given.do(other)
            return True
        self.assertIs(keeper.attempt(call), True)
        self.assertEqual((plain.written, keeper.steps), ([one, other], (*first, one, other)))
        keeper.undo()
        keeper.undo()
        keeper.undo()
        self.assertEqual(keeper.steps, ())

    def test_other_values(self):
        for value in [*any_values(), 1, 1.0, "True", [True], (True,)]:
            if value is True:
                continue
            keeper, plain = self.made()
            first = keeper.steps
            one, other = self.steps("a", "b")
            def call(given):
                given.do(one)
                given.do(other)
                return value
            self.assertIs(keeper.attempt(call), False)
            self.assertEqual((plain.written, keeper.steps), ([one, other, other.contrary(), one.contrary()], first))

    def test_no_steps(self):
        keeper, plain = self.made()
        first = keeper.steps
        self.assertIs(keeper.attempt(lambda given: None), False)
        self.assertIs(keeper.attempt(lambda given: True), True)
        self.assertEqual((plain.written, keeper.steps), ([], first))

    def test_all_errors_of_the_package_undo_and_go_on(self):
        for _, error, fields in each_error():
            keeper, plain = self.made()
            first = keeper.steps
            one, other = self.steps("a", "b")
            thrown = error(*["v"] * len(fields))
            def call(given):
                given.do(one)
                given.do(other)
                raise thrown
            with self.subTest(error.__name__):
                self.assertIs(raised(error, keeper.attempt, call), thrown)
                self.assertEqual((plain.written[2:], keeper.steps), ([other.contrary(), one.contrary()], first))
                # The keeper goes on as ever.
                keeper.undo()
                self.assertEqual(keeper.steps, ())

    def test_errors_of_the_keeper_itself(self):
        keeper, plain = self.made()
        one, bad = change([shop("a")]), change([item("a", "nowhere")])
        def call(given):
            given.do(one)
            given.do(bad)
            return True
        self.assertIs(raised(Refused, keeper.attempt, call).change, bad)
        self.assertEqual(plain.written, [one, one.contrary()])
        self.assertEqual([answer for _, answer in keeper.looked], [0])

    def test_an_error_that_is_caught_within(self):
        keeper, plain = self.made()
        def call(given):
            raised(Refused, given.do, change([item("a", "nowhere")]))
            given.do(change([shop("a")]))
            return True
        self.assertIs(keeper.attempt(call), True)
        self.assertEqual(len(keeper.steps), 2)

    def test_undo_reaches_only_what_was_done_within(self):
        keeper, plain = self.made()
        first = keeper.steps
        def call(given):
            raised(Nothing, given.undo)
            given.do(change([shop("a")]))
            given.undo()
            raised(Nothing, given.undo)
            given.do(change([shop("b")]))
            return True
        self.assertIs(keeper.attempt(call), True)
        self.assertEqual(keeper.steps, (*first, change([shop("b")])))
        keeper.undo()
        keeper.undo()
        raised(Nothing, keeper.undo)

    def test_what_was_undone_within_is_not_undone_again(self):
        keeper, plain = self.made()
        one, other = self.steps("a", "b")
        def call(given):
            given.do(one)
            given.do(other)
            given.undo()
            return False
        self.assertIs(keeper.attempt(call), False)
        self.assertEqual(plain.written, [one, other, other.contrary(), one.contrary()])

    def test_attempts_within_attempts(self):
        keeper, plain = self.made()
        first = keeper.steps
        one, two, three, four = self.steps("a", "b", "c", "d")
        def inner(given):
            raised(Nothing, given.undo)
            given.do(two)
            given.do(three)
            return True
        for result in (True, False):
            def outer(given):
                given.do(one)
                self.assertIs(given.attempt(inner), True)
                given.do(four)
                return result
            plain.fresh()
            self.assertIs(keeper.attempt(outer), result)
            done = [one, two, three, four]
            back = [] if result else [each.contrary() for each in done[::-1]]
            self.assertEqual(plain.written, [*done, *back])
            self.assertEqual(keeper.steps, (*first, *(done if result else [])))
            while result and len(keeper.steps) > 1:
                keeper.undo()

    def test_an_inner_one_that_fails(self):
        keeper, plain = self.made()
        first = keeper.steps
        one, two, three = self.steps("a", "b", "c")
        def failing(given):
            given.do(two)
            return 1
        def throwing(given):
            given.do(two)
            raise UnknownTable("x")
        def outer(given):
            given.do(one)
            self.assertIs(given.attempt(failing), False)
            raised(UnknownTable, given.attempt, throwing)
            self.assertEqual(given.steps, (*first, one))
            given.undo()
            raised(Nothing, given.undo)
            given.do(three)
            return True
        self.assertIs(keeper.attempt(outer), True)
        self.assertEqual(plain.written, [one, two, two.contrary(), two, two.contrary(), one.contrary(), three])
        self.assertEqual(keeper.steps, (*first, three))

    def test_an_error_through_both(self):
        keeper, plain = self.made()
        first = keeper.steps
        one, two = self.steps("a", "b")
        def inner(given):
            given.do(two)
            raise Misfit(3)
        def outer(given):
            given.do(one)
            given.attempt(inner)
        self.assertEqual(raised(Misfit, keeper.attempt, outer).index, 3)
        self.assertEqual((plain.written, keeper.steps), ([one, two, two.contrary(), one.contrary()], first))

    def test_undo_of_an_inner_attempt_by_the_outer_one(self):
        keeper, plain = self.made()
        one, two = self.steps("a", "b")
        def outer(given):
            given.do(one)
            given.attempt(lambda inner: inner.do(two) is None)
            given.undo()
            given.undo()
            raised(Nothing, given.undo)
            return True
        keeper.attempt(outer)
        self.assertEqual(plain.written, [one, two, two.contrary(), one.contrary()])

    def test_looked_stays(self):
        keeper, plain = self.made()
        def call(given):
            given.do(change([item("a", "x")]))
            return None
        keeper.attempt(call)
        self.assertEqual([answer for _, answer in keeper.looked], [1])
        def throwing(given):
            given.do(change([item("a", "x")]))
            given.undo()
            raise UnknownTable("x")
        raised(UnknownTable, keeper.attempt, throwing)
        self.assertEqual(keeper.looked, ())
        def undone(given):
            given.do(change([item("a", "x")]))
            given.undo()
            given(change([item("b", "x")]))
            raised(Nothing, given.undo)
        keeper.attempt(undone)
        self.assertEqual(len(keeper.looked), 1)

    def test_of_houses(self):
        for kind in (House, CountingHouse):
            house = kind(Rules(town(), OWNED), filled(town(), shop=[("x",)]))
            before = house.database
            def call(given):
                given.do(change([item("a", "x")]))
                return given is house and result
            for result in (None, 1, False):
                self.assertIs(house.attempt(call), False)
                self.assertEqual((house.database, house.steps), (before, ()))
            result = True
            self.assertIs(house.attempt(call), True)
            self.assertEqual(len(house.database), 2)


class CountingTest(unittest.TestCase):
    """[84]"""

    def test_over_all_calls(self):
        keeper, plain = kept(OWNED, KEY, kind=CountingKeeper, shop=[("x",)])
        self.assertIsInstance(keeper, Keeper)
        self.assertEqual((keeper.total, type(keeper.total)), (0, int))
        asked = 0
        for call, made in [(keeper, change([item("a", "x")])), (keeper.do, change([item("a", "x")])), (keeper.do, change([shop("y")])),
                           (keeper, change([item("a", "y")])), (keeper, change([item("b", "q")]))]:
            call(made)
            asked += len(keeper.looked)
            self.assertEqual(keeper.total, asked)
            self.assertEqual(keeper.total, len(plain.asked))
        raised(Refused, keeper.do, change([item("a", "y")]))
        asked += len(keeper.looked)
        self.assertEqual(keeper.total, asked)
        keeper.undo()
        keeper.allow(0)
        raised(TooDear, keeper, change([item("d", "x")]))
        self.assertEqual((keeper.total, keeper.looked), (asked, ()))

    def test_errors_of_looks(self):
        for wrong, error in [(NoLook(0), LookFailed), ("x", InvalidAnswer), (7, InvalidAnswer)]:
            for number in range(3):
                keeper, plain = kept(OWNED, KEY, kind=CountingKeeper, shop=[("x",)])
                plain.instead = {number: wrong}
                raised(error, keeper, change([item("a", "x"), item("b", "x")]))
                self.assertEqual(keeper.total, number)
                plain.instead = {}
                keeper(change([item("a", "x"), item("b", "x")]))
                self.assertEqual(keeper.total, number + 3)

    def test_looks_of_attempts_count(self):
        keeper, plain = kept(OWNED, KEY, kind=CountingKeeper, shop=[("x",)])
        keeper.attempt(lambda given: given.do(change([item("a", "x")])))
        self.assertEqual((keeper.total, keeper.steps), (2, ()))

    def test_all_else_is_as_of_a_keeper(self):
        keeper, plain = kept(OWNED, kind=CountingKeeper)
        raised(Nothing, keeper.undo)
        raised(InvalidLimit, keeper.allow, True)
        raised(OtherSchema, keeper, change([], [], Schema(Table("t", "a"))))
        keeper.do(change([shop("x")]))
        keeper.undo()
        self.assertEqual((keeper.rules, keeper.steps, keeper.most_looks), (Rules(town(), OWNED), (), None))
