"""A keeper plans each kind of change once: whichever changes it met before, it tells the same."""

import random
import unittest
from unittest import mock

from onlylooks import keeper as module
from onlylooks.desks import Desk
from onlylooks.errors import InvalidAnswer, NeverFits, OtherSchema, Refused, TooDear, TooMany
from onlylooks.fields import Field
from onlylooks.keeper import House, Keeper
from onlylooks.kinds import Template, kind_of
from onlylooks.rules import Rules
from onlylooks.statements import Rule, Total
from onlylooks.tables import Schema, Table
from tests.plain import Plain, kept
from tests.raising import raised
from tests.towns import change, filled, item, shop, town
from tests.worlds import Maker

OWNED = Rule.reference("item", "shop", [("at", "id")])
KEY = Rule.key("item", "id")


def told_by(keeper, made):
    """What a keeper tells of a change, and by which looks."""
    try:
        return keeper(made), keeper.looked
    except (NeverFits, TooMany, TooDear, InvalidAnswer) as error:
        return type(error), vars(error), keeper.looked


class KindOfTest(unittest.TestCase):
    def test_equal_but_for_names(self):
        one, other = change([item("a", "x"), shop("x")]), change([item("x", "b"), shop("b")])
        self.assertEqual(kind_of(one), ((("item", (0, 1, "big")), ("shop", (1,))), ()))
        self.assertEqual(kind_of(one), kind_of(other))

    def test_unlike(self):
        made = [
            change(), change([item("a", "a")]), change([item("a", "x")]), change([], [item("a", "x")]),
            change([item("a", "x", "small")]), change([shop("a")]), change([shop("a"), item("a", "a")]),
            change([item("a", "a"), shop("a")]), change([item("a", "x")], [shop("x")]), change([item("a", "x")], [shop("a")]),
        ]
        self.assertEqual(len({kind_of(each) for each in made}), len(made))

    def test_more_names_than_a_template_may_have(self):
        made = change([item("a", "b"), item("c", "d"), item("e", "f")])
        self.assertEqual(kind_of(made)[0][2], ("item", (4, 5, "big")))
        raised(TooMany, Template.of, made)


class KeptPlansTest(unittest.TestCase):
    def test_as_a_new_keeper(self):
        met, told = 0, {}
        for number in range(120):
            maker = Maker(random.Random(number))
            schema = maker.schema(2, 2, 3)
            rules, plain = maker.rules(schema, 4), Plain(schema)
            for name in schema.names:
                plain.rows[name] = {maker.row(schema[name], "abc") for _ in range(3)}
            keeper, kinds = Keeper(rules, plain.look, plain.write), set()
            for _ in range(25):
                made = maker.change(schema, "abcdef")
                keeper.allow(maker.source.choice([None, None, 1, 2]))
                new = Keeper(rules, plain.look, plain.write)
                new.allow(keeper.most_looks)
                answer = told_by(keeper, made)
                self.assertEqual(answer, told_by(new, made))
                met += kind_of(made) in kinds
                kinds.add(kind_of(made))
                told[answer[0]] = told.get(answer[0], 0) + 1
        self.assertGreater(met, 1000)
        self.assertGreater(min(told[each] for each in ("kept", "broken", NeverFits, TooDear)), 5)

    def test_looks_are_those_of_the_change_itself(self):
        keeper, plain = kept(OWNED, KEY, shop=[("x",), ("y",)])
        for name, at in [("a", "x"), ("b", "y"), ("b", "y"), ("c", "z")]:
            keeper(change([item(name, at)]))
            asked = {(each.table, *each.words.items()) for each, _ in keeper.looked}
            self.assertLessEqual(asked, {("item", ("id", name)), ("shop", ("id", at))})
            self.assertIn(("shop", ("id", at)), asked)

    def test_a_kind_is_planned_once(self):
        keeper, _ = kept(OWNED, KEY)
        house = House(Rules(town(), OWNED), filled(town(), shop=[("x",)]))
        for each in (keeper, house):
            with mock.patch.object(module, "Field", side_effect=Field) as made:
                for name in "abcdefgh":
                    each(change([item(name, "x")]))
                self.assertEqual(made.call_count, 1)
                each(change([item("x", "x")]))
                self.assertEqual(made.call_count, 2)

    def test_errors_come_again(self):
        keeper, plain = kept(Total("item", 0, 0))
        for name in "abcd":
            raised(NeverFits, keeper, change([], [item(name, "x")]))
            raised(NeverFits, keeper.do, change([], [item("x", name)]))
        self.assertEqual((plain.asked, plain.written), ([], []))
        dear, _ = kept(OWNED)
        dear(change([item("a", "x")]))
        dear.allow(0)
        self.assertEqual(raised(TooDear, dear, change([item("b", "x")])).number, 1)
        dear.allow(1)
        self.assertEqual(dear(change([item("c", "x")])), "broken")
        turned = Schema(town()["shop"], town()["item"])
        raised(OtherSchema, dear, change([item("a", "x")], schema=turned))
        wide = Schema(Table("a", "id", ("k", ["p", "q", "r"]), ("m", ["p", "q", "r"])))
        many = Keeper(Rules(wide, Total("a", 0, 3, where={"k": ["p"]}), Total("a", 0, 3)), plain.look, plain.write)
        for names in ("xyz", "uvw"):
            rows = [("a", (name, "p", "p")) for name in names]
            self.assertEqual(raised(TooMany, many, change([], rows, wide)).limit, 16)

    def test_steps_and_desks(self):
        house = House(Rules(town(), OWNED, KEY), filled(town(), shop=[("x",)]))
        for name in "abc":
            house.do(change([item(name, "x")]))
            raised(Refused, house.do, change([item(name * 2, "y")]))
        self.assertEqual(len(house.database), 4)
        desk = Desk(Rules(town(), OWNED, KEY), filled(town(), shop=[("x",)]))
        lines = ["depth put item a x big", "do put item a x big", "depth put item a x big", "depth put item a a big", "ask put item b y big"]
        self.assertEqual([desk.say(line) for line in lines], ["2", "done 2", "2", "2", "broken 1"])


if __name__ == "__main__":
    unittest.main()
