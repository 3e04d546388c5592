"""Two changes [74] to [76]."""

import random
import unittest
from itertools import combinations

from onlylooks.changes import Change
from onlylooks.couples import helps, in_any_order, spoils, together
from onlylooks.databases import Database
from onlylooks.demands import demands
from onlylooks.errors import Circle, InvalidPair, OtherSchema, TooMany
from onlylooks.looks import looks
from onlylooks.rules import Rules
from onlylooks.statements import Rule, Total
from onlylooks.tables import Schema, Table
from tests.raising import raised
from tests.towns import change, town
from tests.worlds import Maker, all_rows, with_rows

OWNED = Rule.reference("item", "shop", [("at", "id")])
ITEM, OTHER, SHOP = ("item", ("a", "x", "big")), ("item", ("b", "x", "big")), ("shop", ("x",))
ALL = (spoils, helps, in_any_order)


def is_ready(rules, one, other, database):
    return rules.keeps(database) and one.fits(database) and other.fits(database)


def kept(rules, one, other, database):
    """Whether the first, the second and both would be kept, by a count of everything."""
    behind = together(one, other).on(database)
    return tuple(rules.keeps(each) for each in (one.on(database), other.on(database), behind))


CONDITIONS = {
    "spoils": lambda one, other, both: one and other and not both,
    "helps": lambda one, other, both: both and not other,
    "order": lambda one, other, both: both and not (one and other),
}


PAIR = Schema(Table("t", "a"), Table("u", "a", ("k", ["p", "q"])))
SAME = [("a", "a")]
POOL = [
    Rule.reference("u", "t", SAME), Rule.at_most("t", "u", SAME, 1), Rule("t", "u", SAME, 1, 2), Rule.key("u", "a"),
    Rule.at_most("t", "u", SAME, 0, other_where={"k": ["p"]}), Total("u", 0, 2), Total("t", 1, 2), Rule("u", "t", [], 1, 2),
    Rule("u", "u", SAME, 0, 1, where={"k": ["p"]}), Rule("u", "t", SAME, 1, 1, where={"k": ["q"]}), Total("u", 1, None, where={"k": ["p"]}),
]


def linked(maker):
    """Rules of two tables whose rows ask for one another."""
    while True:
        try:
            return Rules(PAIR, *maker.source.sample(POOL, maker.source.randint(1, 3)))
        except Circle:
            pass


def readies(rules, one, other, names, most):
    """All ready databases with these names and at most so many rows, those with fewer first."""
    both = together(one, other)
    rows = [row for row in all_rows(rules.schema, names) if row not in [*both.put_rows, *both.taken_rows]]
    for many in range(most - len(both.taken_rows) + 1):
        for some in combinations(rows, many):
            database = with_rows(rules.schema, [*both.taken_rows, *some])
            if is_ready(rules, one, other, database):
                yield database


def split(maker, made):
    """A change cut into two at random."""
    entries = [*[(entry, True) for entry in made.put_rows], *[(entry, False) for entry in made.taken_rows]]
    maker.source.shuffle(entries)
    cut = maker.source.randint(0, len(entries))
    return [Change(made.schema, [entry for entry, is_put in some if is_put], [entry for entry, is_put in some if not is_put])
            for some in (entries[:cut], entries[cut:])]


class TogetherTest(unittest.TestCase):
    """[74]"""

    def test_orders(self):
        one, other = change([ITEM], [SHOP]), change([("shop", ("y",))])
        self.assertEqual(together(one, other), change([ITEM, ("shop", ("y",))], [SHOP]))
        self.assertEqual(together(other=one, one=other), change([("shop", ("y",)), ITEM], [SHOP]))
        one, other = change([], [SHOP]), change([], [ITEM, OTHER])
        self.assertEqual(together(one, other).taken_rows, (SHOP, ITEM, OTHER))
        self.assertEqual(together(change(), change()), change())
        self.assertEqual((one, other), (change([], [SHOP]), change([], [ITEM, OTHER])))

    def test_not_apart(self):
        for one, other in [(change([ITEM]), change([ITEM])), (change([ITEM]), change([], [ITEM])), (change([], [ITEM]), change([ITEM])),
                           (change([], [SHOP]), change([ITEM], [OTHER, SHOP])), (change([ITEM, OTHER]), change([SHOP, OTHER]))]:
            raised(InvalidPair, together, one, other)
            for call in ALL:
                raised(InvalidPair, call, Rules(town(), OWNED), one, other)

    def test_equal_rows_of_two_tables_are_apart(self):
        schema = Schema(Table("t", "a"), Table("u", "a"))
        one, other = change([("t", ("x",))], [], schema), change([], [("u", ("x",))], schema)
        self.assertEqual(len(together(one, other)), 2)

    def test_too_many(self):
        shops = [("shop", (word,)) for word in "abcd"]
        self.assertEqual(len(together(change(shops[:2]), change([], shops[2:3]))), 3)
        self.assertEqual(len(together(change(), change(shops[:3]))), 3)
        for one, other in [(change(shops[:2]), change(shops[2:])), (change(shops[:3]), change([], shops[3:]))]:
            self.assertEqual(raised(TooMany, together, one, other).limit, 3)
            for call in ALL:
                self.assertEqual(raised(TooMany, call, Rules(town(), OWNED), one, other).limit, 3)

    def test_errors_in_their_order(self):
        turned = Schema(town()["shop"], town()["item"])
        shops = [("shop", (word,)) for word in "abcd"]
        for call in (together, *[lambda one, other, each=each: each(Rules(town()), one, other) for each in ALL]):
            raised(OtherSchema, call, change(shops[:3]), change(shops[:3], [], turned))
            raised(InvalidPair, call, change(shops[:3]), change(shops[1:]))
        for call in ALL:
            both = change(shops[:2], [], turned), change(shops[1:3], [], turned)
            raised(InvalidPair, call, Rules(town()), *both)
            raised(TooMany, call, Rules(town()), change(shops[:2], [], turned), change(shops[2:], [], turned))
            raised(OtherSchema, call, Rules(town()), change(shops[:1], [], turned), change(shops[2:], [], turned))
            raised(OtherSchema, call, Rules(town()), change(), change([], [], turned))


class SearchTest(unittest.TestCase):
    """[75], [76]"""

    def test_told_ones(self):
        rules = Rules(town(), OWNED, Total("item", 0, 2))
        one, other = change([ITEM]), change([OTHER])
        database = spoils(rules, one, other)
        self.assertEqual((len(database), len(database["item"]), database["shop"]), (2, 1, (("x",),)))
        self.assertIsNone(helps(rules, one, other))
        self.assertIs(in_any_order(rules, one, other), True)
        shop, item = change([SHOP]), change([ITEM])
        self.assertEqual(helps(rules, shop, item), Database(town()))
        self.assertIsNone(helps(rules, item, shop))
        self.assertEqual([in_any_order(rules, shop, item), in_any_order(rules, item, shop)], [False, False])
        self.assertIsNone(spoils(rules, shop, item))
        gone = change([], [SHOP])
        self.assertEqual(spoils(rules, item, gone), self.with_shop())
        self.assertIsNone(spoils(other=change(), one=item, rules=rules))

    def with_shop(self):
        database = Database(town())
        database.put("shop", ("x",))
        return database

    def test_where_nothing_is_ready(self):
        rules = Rules(town(), Total("item", 0, 0))
        one, other = change([], [ITEM]), change([SHOP])
        self.assertEqual([spoils(rules, one, other), helps(rules, one, other), in_any_order(rules, one, other)], [None, None, True])

    def test_new_databases(self):
        rules = Rules(town(), OWNED)
        first = helps(rules, change([SHOP]), change([ITEM]))
        first.put("shop", ("zz",))
        self.assertEqual(len(helps(rules, change([SHOP]), change([ITEM]))), 0)

    def test_held_against_all_small_databases(self):
        """Of schemas of all kinds, and of two tables whose rows ask for one another."""
        found = {"spoils": 0, "helps": 0, "order": 0, "none": 0}
        for number in range(1200):
            maker = Maker(random.Random(number))
            schema = PAIR if number % 4 else maker.schema(2, 2, 2)
            rules = linked(maker) if number % 4 else maker.rules(schema, 3)
            both = maker.change(schema, "b" if number % 4 > 1 else "bc")
            one, other = split(maker, both)
            if len(both) > 1 and len(rules) > 0 and len(all_rows(schema, "bcxyz")) <= 20:
                try:
                    told = {"spoils": spoils(rules, one, other), "helps": helps(rules, one, other)}
                    is_free = in_any_order(rules, one, other)
                except TooMany:
                    continue
                with self.subTest(number):
                    self.check(rules, one, other, told, is_free, found)
        self.assertGreater(min(found.values()), 20, found)

    def check(self, rules, one, other, told, is_free, found):
        met = {}
        for database in readies(rules, one, other, "bcxyz", 4):
            truths = kept(rules, one, other, database)
            for name, is_right in CONDITIONS.items():
                if is_right(*truths):
                    met.setdefault(name, len(database))
        for name, database in told.items():
            if database is None:
                self.assertNotIn(name, met)
                found["none"] += 1
            else:
                self.assertTrue(is_ready(rules, one, other, database))
                self.assertTrue(CONDITIONS[name](*kept(rules, one, other, database)))
                # Where none was met, it has more rows than were gone through.
                self.assertTrue(len(database) > 4 if name not in met else len(database) == met[name])
                found[name] += 1
        self.assertEqual(is_free, told["helps"] is None and helps(rules, other, one) is None)
        if "order" in met:
            self.assertIs(is_free, False)
            found["order"] += 1

    def test_arguments_are_left_as_they_were(self):
        rules, one, other = Rules(town(), OWNED), change([SHOP]), change([ITEM])
        for call in ALL:
            call(rules, one, other)
        self.assertEqual((rules, one, other), (Rules(town(), OWNED), change([SHOP]), change([ITEM])))


class TooManyTest(unittest.TestCase):
    """By the looks of one, of the other one and of both together [76]."""

    def product(self, rules, one, other):
        """The product of most + 1 of the looks of all three, each once with its greatest most."""
        greatest = []
        for each in (one, other, together(one, other)):
            for look in looks(rules, each):
                for told in greatest:
                    if told[:3] == [look.table, look.words, look.where]:
                        told[3] = max(told[3], look.most)
                        break
                else:
                    greatest.append([look.table, look.words, look.where, look.most])
        many = 1
        for *_, most in greatest:
            many *= most + 1
        return many, greatest

    def check(self, rules, one, other, limit):
        for call in ALL:
            if limit is None:
                call(rules, one, other)
            else:
                self.assertEqual(raised(TooMany, call, rules, one, other).limit, limit)

    def marked(self, *others):
        return Schema(Table("t", "id", ("k", ["p", "q", "r"])), *[Table(name, "id") for name in others])

    def test_the_greatest_most_of_all_three(self):
        schema = self.marked("u")
        rules = Rules(schema, Total("t", 0, 3))
        one, other = change([("t", ("a", "p"))], [], schema), change([], [("t", ("b", "p"))], schema)
        # 3 for the one put, 5 for the one taken, and both together change nothing.
        self.assertEqual(demands(rules, together(one, other)), ())
        self.assertEqual(self.product(rules, one, other), (6, [["t", {}, {}, 5]]))
        self.check(rules, one, other, None)

    def test_200(self):
        schema = self.marked("u", "v")
        statements = [Total("t", 0, 3), Total("t", 0, 3, where={"k": ["p"]}), Total("u", 0, 3), Total("v", 0, 1)]
        one, other = change([("u", ("x",))], [("t", ("a", "p"))], schema), change([("v", ("x",))], [], schema)
        self.assertEqual(self.product(Rules(schema, *statements), one, other)[0], 6 * 6 * 4 * 2)
        self.check(Rules(schema, *statements), one, other, 200)
        for third, fourth, product, limit in [(Total("u", 0, 1), Total("v", 0, 3), 6 * 6 * 2 * 4, 200), (Total("u", 0, 1), Total("v", 0, 1), 144, None),
                                              (Total("u", 0, 0), Total("v", 0, 3), 144, None)]:
            rules = Rules(schema, *statements[:2], third, fourth)
            self.assertEqual(self.product(rules, one, other)[0], product)
            self.check(rules, one, other, limit)

    def test_just_200_and_just_more(self):
        schema = self.marked("u", "v")
        rules = Rules(schema, Total("t", 0, 3), Total("t", 0, 2, where={"k": ["p"]}), Total("u", 0, 3), Total("v", 0, 0))
        one, other = change([], [("t", ("a", "p"))], schema), change([("u", ("x",))], [], schema)
        self.assertEqual(self.product(rules, one, other)[0], 6 * 5 * 4)
        self.check(rules, one, other, None)
        rules = Rules(schema, Total("t", 0, 3), Total("t", 0, 2, where={"k": ["p"]}), Total("t", 0, 3, where={"k": ["p", "q"]}))
        self.assertEqual(self.product(rules, one, other)[0], 6 * 5 * 6)
        self.check(rules, one, other, None)
        wide = Rules(schema, *rules.statements, Total("u", 0, 1))
        self.assertEqual(self.product(wide, one, other)[0], 6 * 5 * 6 * 2)
        self.check(wide, one, other, 200)
        # 5 * 5 * 4 * 2 is 200, 7 * 5 * 3 * 2 is 210.
        rules = Rules(schema, Total("t", 0, 2), Total("t", 0, 2, where={"k": ["p"]}), Total("t", 0, 1, where={"k": ["p", "q"]}), Total("u", 0, 1))
        self.assertEqual(self.product(rules, one, other)[0], 200)
        self.check(rules, one, other, None)
        two = change([], [("t", ("a", "p")), ("t", ("b", "q"))], schema)
        rules = Rules(schema, Total("t", 0, 3), Total("t", 0, 2, where={"k": ["p"]}), Total("t", 0, 0, where={"k": ["q"]}), Total("u", 0, 1))
        self.assertEqual(self.product(rules, two, other)[0], 210)
        self.check(rules, two, other, 200)
        self.check(rules, other, two, 200)

    def test_16_rows(self):
        """Taken rows of both, the most of each look and the least of each Total, with their reaches."""
        schema = Schema(*[Table(name, "id") for name in "abcd"])
        chain = [Rule("a", "b", [], 1, None), Rule("b", "c", [], 1, None)]
        one, other = change([], [("a", ("x",))], schema), change([("d", ("x",))], [], schema)
        # One row taken of reach 3, two rows of reach 3 and one of reach 2 for the looks: 11.
        self.assertEqual(self.product(Rules(schema, *chain), one, other)[1], [["a", {}, {}, 2], ["b", {}, {}, 1]])
        some = [Total("c", 2, 3), Total("c", 2, None), Total("c", 1, None), Total("c", 2, None)]
        self.check(Rules(schema, *chain, *some[:2]), one, other, None)
        self.check(Rules(schema, *chain, some[1], some[1], some[2]), one, other, None)
        self.check(Rules(schema, *chain, some[1], some[1], some[3]), one, other, 16)

    def test_taken_rows_of_both_count(self):
        schema = Schema(*[Table(name, "id") for name in "abcd"])
        chain = [Rule("a", "b", [], 1, None), Rule("b", "c", [], 1, None)]
        one, other = change([], [("a", ("x",))], schema), change([], [("a", ("y",))], schema)
        # Six for the taken rows, nine for the look at a of both together and two for that at b.
        self.assertEqual(self.product(Rules(schema, *chain), one, other)[1], [["a", {}, {}, 3], ["b", {}, {}, 1]])
        self.check(Rules(schema, *chain), one, other, 16)
        self.check(Rules(schema, *chain), one, change([("a", ("y",))], [], schema), None)

    def test_200_comes_ahead_of_16(self):
        wide = Schema(Table("a", "id", ("k", ["p", "q", "r"]), ("m", ["p", "q", "r"])))
        rows = [("a", (name, "p", "p")) for name in "xyz"]
        wheres = [None, {"k": ["p"]}, {"m": ["p"]}, {"k": ["p", "q"]}]
        rules = Rules(wide, *[Total("a", 0, 3, where=where) for where in wheres])
        self.check(rules, change([], rows[:2], wide), change([], rows[2:], wide), 200)
        self.check(Rules(wide, *rules.statements[:2]), change([], rows[:2], wide), change([], rows[2:], wide), 16)
