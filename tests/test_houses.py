"""Keepers over a database of their own [84]."""

import unittest

from onlylooks.changes import Change
from onlylooks.databases import Database
from onlylooks.desks import Desk
from onlylooks.errors import Broken, InvalidLimit, NeverFits, Nothing, OtherSchema, Refused, TooDear, TooMany, Unfit
from onlylooks.keeper import CountingHouse, CountingKeeper, House, Keeper
from onlylooks.rules import Rules
from onlylooks.statements import Rule, Total
from onlylooks.tables import Schema, Table
from tests.raising import raised
from tests.towns import change, filled, item, shop, town

OWNED = Rule.reference("item", "shop", [("at", "id")])
KEY = Rule.key("item", "id")
KINDS = (House, CountingHouse, Desk)


def houses(*statements, **rows):
    for kind in KINDS:
        yield kind(Rules(town(), *statements), filled(town(), **rows))


class KindsTest(unittest.TestCase):
    def test_subclasses(self):
        self.assertTrue(issubclass(House, Keeper) and issubclass(CountingKeeper, Keeper))
        self.assertFalse(issubclass(House, CountingKeeper) or issubclass(CountingKeeper, House))
        self.assertTrue(issubclass(CountingHouse, House) and issubclass(CountingHouse, CountingKeeper))
        self.assertTrue(issubclass(Desk, CountingHouse))

    def test_names_of_arguments(self):
        for kind in KINDS:
            made = kind(database=filled(town()), rules=Rules(town(), OWNED))
            self.assertEqual((made.rules, made.database, made.steps, made.looked, made.most_looks), (Rules(town(), OWNED), Database(town()), (), (), None))
        self.assertFalse(hasattr(House(Rules(town()), filled(town())), "total"))
        self.assertEqual(CountingHouse(Rules(town()), filled(town())).total, 0)


class MadeTest(unittest.TestCase):
    def test_broken(self):
        rules = Rules(town(), Total("shop", 0, 1), OWNED)
        for rows, index, spot in [({"item": [("a", "y", "big"), ("b", "x", "big")]}, 1, ("x",)),
                                  ({"shop": [("x",), ("y",)], "item": [("a", "z", "big")]}, 0, ())]:
            for kind in KINDS:
                error = raised(Broken, kind, rules, filled(town(), **rows))
                self.assertEqual((error.index, error.spot), (index, spot))

    def test_other_schema(self):
        turned = Schema(town()["shop"], town()["item"])
        for kind in KINDS:
            raised(OtherSchema, kind, Rules(town(), OWNED), filled(turned, item=[("a", "y", "big")]))

    def test_a_copy_of_the_database(self):
        for kind in KINDS:
            handed = filled(town(), shop=[("x",)])
            house = kind(Rules(town(), OWNED), handed)
            house.do(change([item("a", "x")]))
            self.assertEqual(handed, filled(town(), shop=[("x",)]))
            handed.take("shop", ("x",))
            self.assertEqual(house.database, filled(town(), shop=[("x",)], item=[("a", "x", "big")]))
            house.database.take("shop", ("x",))
            self.assertEqual(len(house.database), 2)
            self.assertIsNot(house.database, house.database)


class CallsTest(unittest.TestCase):
    def test_do_and_undo(self):
        for house in houses(OWNED, KEY):
            self.assertIsNone(house.do(change([shop("x"), shop("y")])))
            self.assertIsNone(house.do(change([item("a", "x")], [shop("y")])))
            self.assertEqual(house.database, filled(town(), item=[("a", "x", "big")], shop=[("x",)]))
            self.assertEqual([house(change([item("b", "x")])), house(change([item("b", "z")]))], ["kept", "broken"])
            raised(Refused, house.do, change([], [shop("x")]))
            house.undo()
            self.assertEqual(house.database, filled(town(), shop=[("x",), ("y",)]))
            house.undo()
            raised(Nothing, house.undo)
            self.assertEqual((house.database, house.steps), (Database(town()), ()))

    def test_answers_are_those_of_the_database(self):
        for house in houses(OWNED, KEY, shop=[("x",)]):
            house(change([item("a", "x")]))
            for look, answer in house.looked:
                self.assertEqual(look(house.database), answer)
            self.assertEqual(len(house.looked), 2)

    def test_unfit(self):
        for house in houses(OWNED, shop=[("x",)], item=[("a", "x", "big")]):
            for made, index in [(change([shop("x")]), 0), (change([shop("y"), item("a", "x")]), 1), (change([], [shop("y")]), 0),
                                (change([shop("y")], [shop("x"), item("b", "x")]), 2), (change([shop("y"), shop("x")], [shop("z")]), 1)]:
                for call in (house, house.do):
                    house(change([item("b", "x")]))
                    self.assertEqual(len(house.looked), 1)
                    self.assertEqual(raised(Unfit, call, made).index, index)
                    self.assertEqual((house.looked, house.steps), ((), ()))
            self.assertEqual(len(house.database), 2)

    def test_other_schema_comes_ahead_of_unfit(self):
        turned = Schema(town()["shop"], town()["item"])
        for house in houses(OWNED, shop=[("x",)]):
            for call in (house, house.do):
                house(change([item("b", "x")]))
                raised(OtherSchema, call, change([shop("x")], [], turned))
                self.assertEqual(house.looked, ())

    def test_unfit_comes_ahead_of_all_else(self):
        wide = Schema(Table("a", "id", ("k", ["p", "q", "r"]), ("m", ["p", "q", "r"])))
        rows = [("a", (name, "p", "p")) for name in "xyz"]
        wheres = [None, {"k": ["p"]}, {"m": ["p"]}, {"k": ["p", "q"]}]
        for kind in KINDS:
            house = kind(Rules(wide, *[Total("a", 0, 3, where=where) for where in wheres]), filled(wide, a=[row for _, row in rows]))
            made = Change(wide, [], rows)
            for call in (house, house.do):
                self.assertEqual(raised(TooMany, call, made).limit, 200)
            self.assertEqual(raised(Unfit, house, Change(wide, [], [*rows[:2], ("a", ("w", "p", "p"))])).index, 2)
            none = kind(Rules(town(), Total("item", 0, 0), OWNED), filled(town()))
            raised(Unfit, none, change([], [item("a", "x")]))
            owned = kind(Rules(town(), OWNED), filled(town()))
            owned.allow(0)
            raised(Unfit, owned.do, change([], [shop("x")]))
            owned.do(change([shop("x")]))
            self.assertEqual(raised(TooDear, owned.do, change([], [shop("x")])).number, 1)

    def test_never_fits_cannot_be_met(self):
        """Its own database keeps the rules: a change that fits it fits some database."""
        for house in houses(Total("item", 0, 0)):
            try:
                house(change([], [item("a", "x")]))
            except Unfit:
                continue
            except NeverFits:
                self.fail("Unfit comes first")

    def test_limits(self):
        for house in houses(OWNED, shop=[("x",)]):
            house.allow(0)
            self.assertEqual(raised(TooDear, house.do, change([item("a", "x")])).number, 1)
            raised(InvalidLimit, house.allow, False)
            self.assertEqual((house.most_looks, house.looked, len(house.database)), (0, (), 1))

    def test_total(self):
        for house in houses(OWNED, KEY, shop=[("x",)]):
            if isinstance(house, CountingKeeper):
                many = 0
                for call, made in [(house, change([item("a", "x")])), (house.do, change([item("a", "x")])), (house, change([item("b", "y")]))]:
                    call(made)
                    many += len(house.looked)
                raised(Unfit, house, change([item("a", "x")]))
                house.undo()
                self.assertEqual(house.total, many)
                self.assertGreater(many, 4)
