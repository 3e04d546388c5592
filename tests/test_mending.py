"""Rows beside a change, and rows that have to go [78], [79]."""

import random
import unittest
from itertools import chain, combinations

from onlylooks.changes import Change
from onlylooks.databases import Database
from onlylooks.errors import Broken, OtherSchema, TooMany, Unfit
from onlylooks.facts import Present
from onlylooks.mending import mended, must_go
from onlylooks.possible import possible
from onlylooks.rules import Rules
from onlylooks.statements import Rule, Total
from onlylooks.tables import Schema, Table
from tests.anything import any_values, is_plain
from tests.raising import raised
from tests.towns import change, filled, item, shop, subsets, town
from tests.worlds import Maker, all_rows, with_rows

BIG = {"kind": ["big"]}
OWNED = Rule.reference("item", "shop", [("at", "id")])
FEW = Rule.at_most("shop", "item", [("id", "at")], 1, other_where=BIG)
KEY = Rule.key("item", "id")


def entries(database):
    return [(name, row) for name in database.schema.names for row in database[name]]


def words_in(rows):
    return set(chain.from_iterable(row for _, row in rows))


def kept_databases(numbers, tables=2, columns=2):
    """The tuples (maker, rules, database) of databases that keep their rules, some of them with several rows."""
    for number in numbers:
        maker = Maker(random.Random(number))
        schema = maker.schema(tables, columns, 2)
        rules = maker.rules(schema, 3)
        rows = all_rows(schema, "bc")
        for _ in range(6):
            database = with_rows(schema, maker.source.sample(rows, maker.source.randint(0, min(5, len(rows)))))
            if rules.keeps(database):
                yield maker, rules, database
                break


CHAIN = Schema(Table("t", "a"), Table("u", "a", ("k", ["p", "q"])), Table("w", "a", "b"))
SAME = [("a", "a")]
POOL = [
    Rule("t", "u", SAME, 1, 1), Rule("t", "u", SAME, 2, 2), Rule("u", "w", SAME, 1, 1), Rule("u", "w", [("a", "b")], 1, 2, where={"k": ["p"]}),
    Rule("t", "w", SAME, 1, 2), Rule("t", "w", [("a", "b")], 2, None), Rule.key("w", "b"), Rule.key("u", "k"), Total("w", 1, 3),
    Total("u", 2, 2), Rule.at_most("t", "u", SAME, 1), Rule.at_most("w", "u", [("a", "a")], 0, other_where={"k": ["q"]}),
]


def chained(numbers):
    """Databases that keep rules by which rows ask for others, these for others, and so on."""
    for number in numbers:
        maker = Maker(random.Random(number))
        rules = Rules(CHAIN, *maker.source.sample(POOL, maker.source.randint(1, 4)))
        facts = [Present(*row) for row in maker.source.sample(all_rows(CHAIN, "bc"), maker.source.randint(0, 1))]
        database = possible(rules, *facts)
        if database is not None:
            yield maker, rules, database


def fitting_change(maker, database, names="bcd"):
    """A change of at most two entries that fits."""
    there = entries(database)
    others = [row for row in all_rows(database.schema, names) if row not in there]
    taken = maker.source.sample(there, min(len(there), maker.source.choice([0, 0, 1])))
    put = maker.source.sample(others, min(len(others), maker.source.choice([0, 1, 1, 2])))
    return Change(database.schema, put, taken)


class MendedTest(unittest.TestCase):
    """[78]"""

    def own(self, rules, database, made, most):
        """The least number of rows to be put beside a change, up to a most, by trying all."""
        behind = made.on(database)
        there = [*entries(behind), *made.taken_rows]
        names = sorted(words_in(there) - {"p", "q"})
        others = [row for row in all_rows(rules.schema, [*names, "y", "z"]) if row not in there]
        for many in range(most + 1):
            for some in combinations(others, many):
                if rules.keeps(behind | with_rows(rules.schema, some)):
                    return many
        return None

    def check(self, rules, database, made, told):
        """Whether a list of rows is right."""
        self.assertTrue(is_plain(told) and type(told) is tuple)
        self.assertEqual(list(told), sorted(set(told)))
        for entry in told:
            self.assertNotIn(entry, [*entries(database), *made.put_rows, *made.taken_rows])
            self.assertTrue(rules.schema[entry[0]].is_row(entry[1]))
        self.assertTrue(rules.keeps(made.on(database) | with_rows(rules.schema, told)))

    def test_none_needed(self):
        rules = Rules(town(), OWNED)
        self.assertEqual(mended(rules, filled(town()), change()), ())
        self.assertEqual(mended(rules, filled(town()), change([shop("x")])), ())
        self.assertEqual(mended(rules, filled(town(), shop=[("x",)]), change([item("a", "x")])), ())
        self.assertEqual(mended(change=change([item("a", "x"), shop("x")]), database=filled(town()), rules=rules), ())

    def test_one_row(self):
        rules = Rules(town(), OWNED)
        self.assertEqual(mended(rules, filled(town()), change([item("a", "x")])), (shop("x"),))
        self.assertEqual(mended(rules, filled(town()), change([item("a", "x"), item("b", "x")])), (shop("x"),))

    def test_two_and_three_rows(self):
        rules = Rules(town(), OWNED)
        items = [item("a", "z"), item("b", "y"), item("c", "x")]
        self.assertEqual(mended(rules, filled(town()), change(items[:2])), (shop("y"), shop("z")))
        self.assertEqual(mended(rules, filled(town()), change(items)), (shop("x"), shop("y"), shop("z")))

    def test_more_than_three(self):
        schema = Schema(Table("t", "a"), *[Table(name, "a") for name in "uvw"])
        three = [Rule.reference("t", name, [("a", "a")]) for name in "uvw"]
        empty = Database(schema)
        one, two = change([("t", ("x",))], [], schema), change([("t", ("x",)), ("t", ("y",))], [], schema)
        self.assertEqual(mended(Rules(schema, *three), empty, one), (("u", ("x",)), ("v", ("x",)), ("w", ("x",))))
        self.assertIsNone(mended(Rules(schema, *three), empty, two))
        self.assertIsNone(mended(Rules(schema, *three[:2]), empty, two))
        empty.put("v", ("y",))
        self.assertEqual(mended(Rules(schema, *three[:2]), empty, two), (("u", ("x",)), ("u", ("y",)), ("v", ("x",))))

    def test_rows_that_ask_for_rows(self):
        schema = Schema(Table("z", "a"), Table("y", "a"), Table("x", "a"))
        steps = Rules(schema, Rule.reference("z", "y", [("a", "a")]), Rule("y", "x", [], 2, None))
        told = mended(steps, Database(schema), change([("z", ("b",))], [], schema))
        self.assertEqual((len(told), [name for name, _ in told]), (3, ["x", "x", "y"]))
        self.check(steps, Database(schema), change([("z", ("b",))], [], schema), told)

    def test_ascending_by_the_names_of_tables(self):
        schema = Schema(Table("b", "n"), Table("c", "n"), Table("a", "n"))
        rules = Rules(schema, Rule.reference("b", "c", [("n", "n")]), Rule.reference("b", "a", [("n", "n")]))
        self.assertEqual(mended(rules, Database(schema), change([("b", ("x",))], [], schema)), (("a", ("x",)), ("c", ("x",))))

    def test_a_row_that_was_taken_does_not_come_back(self):
        schema = Schema(Table("t", "a"), Table("u", "a", ("k", ["p", "q"])))
        rules = Rules(schema, Rule.reference("t", "u", [("a", "a")]))
        database = filled(schema, t=[("x",)], u=[("x", "p")])
        self.assertEqual(mended(rules, database, change([], [("u", ("x", "p"))], schema)), (("u", ("x", "q")),))
        single = Schema(Table("t", "a"), Table("u", "a"))
        rules = Rules(single, Rule.reference("t", "u", [("a", "a")]))
        database = filled(single, t=[("x",)], u=[("x",)])
        self.assertIsNone(mended(rules, database, change([], [("u", ("x",))], single)))

    def test_a_bound_from_above_that_is_passed(self):
        rules = Rules(town(), Total("shop", 0, 1), OWNED)
        self.assertIsNone(mended(rules, filled(town(), shop=[("x",)]), change([shop("y")])))
        self.assertIsNone(mended(rules, filled(town(), shop=[("x",)]), change([item("a", "y")])))
        self.assertEqual(mended(rules, filled(town(), shop=[("x",)]), change([item("a", "x")])), ())
        rules = Rules(town(), KEY, OWNED)
        self.assertIsNone(mended(rules, filled(town(), item=[("a", "x", "big")], shop=[("x",)]), change([item("a", "x", "small")])))

    def test_words_of_the_database_where_they_are_needed(self):
        # The one shop that is let is there already.
        schema = Schema(Table("item", "id", "at"), Table("shop", "id"), Table("bill", "item"))
        rules = Rules(schema, Rule.reference("bill", "item", [("item", "id")]), Rule.reference("item", "shop", [("at", "id")]), Total("shop", 0, 1))
        database = filled(schema, shop=[("here",)])
        self.assertEqual(mended(rules, database, change([("bill", ("a",))], [], schema)), (("item", ("a", "here")),))
        told = mended(rules, Database(schema), change([("bill", ("a",))], [], schema))
        self.assertEqual(len(told), 2)
        self.check(rules, Database(schema), change([("bill", ("a",))], [], schema), told)

    def test_words_that_stand_nowhere_yet(self):
        schema = Schema(Table("t", "a", "b"), Table("u", "a"))
        rules = Rules(schema, Rule.reference("u", "t", [("a", "a")]), Rule.key("t", "b"))
        database = filled(schema, t=[("x", "y"), ("y", "x"), ("z", "z")])
        made = change([("u", ("w",))], [], schema)
        told = mended(rules, database, made)
        self.check(rules, database, made, told)
        self.assertEqual((len(told), told[0][1][0]), (1, "w"))
        self.assertNotIn(told[0][1][1], "xyz")

    def test_totals_from_below(self):
        rules = Rules(town(), Total("shop", 2, None))
        database = filled(town(), shop=[("x",), ("y",)])
        told = mended(rules, database, change([], [shop("x")]))
        self.check(rules, database, change([], [shop("x")]), told)
        self.assertEqual(len(told), 1)
        told = mended(rules, database, change([], [shop("x"), shop("y")]))
        self.check(rules, database, change([], [shop("x"), shop("y")]), told)
        self.assertEqual(len(told), 2)

    def test_held_against_an_own_search(self):
        seen = {}
        for maker, rules, database in [*kept_databases(range(500)), *chained(range(1500))]:
            made = fitting_change(maker, database)
            told = mended(rules, database, made)
            before = Database(database.schema) | database
            if told is not None:
                self.check(rules, database, made, told)
            names = words_in([*entries(made.on(database)), *made.taken_rows])
            many = len(all_rows(rules.schema, [*names, "y", "z"]))
            most = 3 if many < 30 else 2 if many < 50 else 1
            own = self.own(rules, database, made, most)
            if told is None or len(told) > most:
                self.assertIsNone(own)
            else:
                self.assertEqual(len(told), own)
            self.assertEqual(database, before)
            seen[own] = seen.get(own, 0) + 1
        self.assertEqual(set(seen), {None, 0, 1, 2, 3})
        self.assertGreater(min(seen.values()), 2)

    def test_equal_calls(self):
        rules = Rules(town(), Total("shop", 2, None))
        database = filled(town(), shop=[("x",), ("y",)])
        made = change([], [shop("x"), shop("y")])
        self.assertEqual(mended(rules, database, made), mended(rules, database.copied(), made))


class MendedErrorsTest(unittest.TestCase):
    """[78]: OtherSchema, then Broken, then Unfit."""

    def test_other_schema(self):
        rules, turned = Rules(town(), OWNED), Schema(town()["shop"], town()["item"])
        broken = filled(town(), item=[("a", "x", "big")])
        raised(OtherSchema, mended, rules, Database(turned), change())
        raised(OtherSchema, mended, rules, filled(turned, item=[("a", "x", "big")]), change([], [shop("x")]))
        raised(OtherSchema, mended, rules, filled(town()), change([], [], turned))
        raised(OtherSchema, mended, rules, broken, change([], [shop("x")], turned))
        raised(OtherSchema, mended, rules, Database(turned), change([], [], turned))

    def test_broken(self):
        rules = Rules(town(), Total("shop", 0, 1), OWNED, KEY)
        for rows, index, spot in [
            ({"item": [("a", "y", "big"), ("b", "x", "big")]}, 1, ("x",)),
            ({"shop": [("x",), ("y",)], "item": [("a", "z", "big")]}, 0, ()),
            ({"shop": [("x",)], "item": [("b", "x", "big"), ("b", "x", "small"), ("a", "x", "big"), ("a", "x", "small")]}, 2, ("a",)),
        ]:
            for call, last in [(mended, change([], [shop("z")])), (mended, change()), (must_go, [None])]:
                error = raised(Broken, call, rules, filled(town(), **rows), last)
                self.assertEqual((error.index, error.spot), (index, spot))

    def test_unfit(self):
        rules = Rules(town(), OWNED)
        database = filled(town(), item=[("a", "x", "big")], shop=[("x",)])
        for made, index in [(change([shop("x")]), 0), (change([shop("y"), shop("x")]), 1), (change([], [shop("y")]), 0),
                            (change([shop("y")], [shop("x"), item("b", "x")]), 2), (change([shop("y"), item("a", "x")], [shop("z")]), 1)]:
            self.assertEqual(raised(Unfit, mended, rules, database, made).index, index)


class MustGoTest(unittest.TestCase):
    """[79]"""

    def test_none_and_some(self):
        rules = Rules(town(), OWNED)
        database = filled(town(), item=[("a", "x", "big"), ("b", "x", "small"), ("c", "y", "big")], shop=[("x",), ("y",), ("z",)])
        self.assertEqual(must_go(rules, database, []), ())
        self.assertEqual(must_go(rules, database, [item("a", "x")]), ())
        self.assertEqual(must_go(rules, database, [shop("z")]), ())
        self.assertEqual(must_go(rules, database, [shop("x")]), (item("a", "x"), item("b", "x", "small")))
        self.assertEqual(must_go(rules, database, (item("b", "x", "small"), shop("x"))), (item("a", "x"),))
        self.assertEqual(must_go(rows=[shop("y"), shop("x")], database=database, rules=rules),
                         (item("a", "x"), item("b", "x", "small"), item("c", "y")))

    def test_several_steps(self):
        schema = Schema(*[Table(name, "a") for name in "dcba"])
        steps = [Rule.reference(one, other, [("a", "a")]) for one, other in ("dc", "cb", "ba")]
        database = filled(schema, **{name: [("x",), ("y",)] for name in "abcd"})
        self.assertEqual(must_go(Rules(schema, *steps), database, [("a", ("x",))]), (("b", ("x",)), ("c", ("x",)), ("d", ("x",))))
        self.assertEqual(must_go(Rules(schema, *steps[::-1]), database, [("c", ("x",)), ("a", ("x",))]), (("b", ("x",)), ("d", ("x",))))

    def test_ascending_by_the_names_of_tables(self):
        schema = Schema(Table("b", "n"), Table("c", "n"), Table("a", "n"))
        rules = Rules(schema, Rule.reference("c", "b", [("n", "n")]), Rule.reference("a", "b", [("n", "n")]))
        database = filled(schema, a=[("x",)], b=[("x",)], c=[("x",)])
        self.assertEqual(must_go(rules, database, [("b", ("x",))]), (("a", ("x",)), ("c", ("x",))))

    def test_bounds_from_above_do_not_matter(self):
        rules = Rules(town(), FEW, Total("item", 0, 1))
        database = filled(town(), item=[("a", "x", "big")], shop=[("x",)])
        self.assertEqual(must_go(rules, database, [shop("x")]), ())

    def test_a_least_of_two(self):
        schema = Schema(Table("t", "a"), Table("u", "a", "b"))
        rules = Rules(schema, Rule("t", "u", [("a", "a")], 2, None))
        database = filled(schema, t=[("x",), ("y",)], u=[("x", "b"), ("x", "c"), ("x", "d"), ("y", "b"), ("y", "c")])
        self.assertEqual(must_go(rules, database, [("u", ("x", "b"))]), ())
        self.assertEqual(must_go(rules, database, [("u", ("x", "b")), ("u", ("x", "c"))]), (("t", ("x",)),))
        self.assertEqual(must_go(rules, database, [("u", ("y", "b"))]), (("t", ("y",)),))

    def test_totals(self):
        rules = Rules(town(), OWNED, Total("item", 1, None, where=BIG))
        database = filled(town(), item=[("a", "x", "big"), ("b", "x", "small"), ("c", "y", "big")], shop=[("x",), ("y",)])
        self.assertEqual(must_go(rules, database, [shop("y")]), (item("c", "y"),))
        self.assertIsNone(must_go(rules, database, [shop("y"), item("a", "x")]))
        self.assertIsNone(must_go(rules, database, [shop("y"), shop("x")]))
        self.assertIsNone(must_go(rules, database, [item("a", "x"), item("c", "y")]))

    def test_held_against_all_sets_of_rows(self):
        seen = {"none": 0, "no more": 0, "more": 0}
        for maker, rules, database in kept_databases(range(900), 3):
            rows = entries(database)
            for taken in subsets(rows)[:24]:
                told = must_go(rules, database, taken)
                right = [some for some in subsets([row for row in rows if row not in taken]) if self.is_right(rules, database, [*taken, *some])]
                # There is just one least set: it is within all others.
                if told is None:
                    totals = [each for each in rules.statements if isinstance(each, Total)]
                    least = min(right, key=len)
                    self.assertFalse(all(total.least <= behind for total, behind in
                                         ((total, self.left(database, [*taken, *least]).count(total.table, total.where)) for total in totals)))
                    seen["none"] += 1
                else:
                    self.assertIn(list(told), [sorted(some) for some in right])
                    self.assertTrue(all(set(told) <= set(some) for some in right))
                    self.assertEqual(list(told), sorted(told))
                    self.assertTrue(rules.keeps(self.left(database, [*taken, *told])))
                    self.assertTrue(is_plain(told))
                    seen["more" if told else "no more"] += 1
        self.assertGreater(min(seen.values()), 20, seen)

    def left(self, database, rows):
        return database - with_rows(database.schema, rows)

    def is_right(self, rules, database, rows):
        """Whether without these rows no row has too few others."""
        behind = self.left(database, rows)
        return all(many >= each.least for each in rules.statements if isinstance(each, Rule) for many in each.counts(behind).values())

    def test_arguments_are_left_as_they_were(self):
        rules = Rules(town(), OWNED)
        database = filled(town(), item=[("a", "x", "big")], shop=[("x",)])
        rows = [shop("x")]
        must_go(rules, database, rows)
        self.assertEqual((len(database), rows), (2, [shop("x")]))


class MustGoErrorsTest(unittest.TestCase):
    """[79]: OtherSchema, then Broken, then Unfit."""

    def test_other_schema(self):
        raised(OtherSchema, must_go, Rules(town(), OWNED), Database(Schema(town()["shop"], town()["item"])), [None])

    def test_unfit(self):
        rules = Rules(town(), OWNED)
        database = filled(town(), item=[("a", "x", "big")], shop=[("x",)])
        wrong = [*any_values(), shop("y"), item("a", "x", "small"), ("shop", ["x"]), ["shop", ("x",)], ("shop", "x"), ("shop", ("x",), 0),
                 ("box", ("x",)), ("shop", ("x", "x")), ("shop",), "shop", ("item", ("x",))]
        for value in wrong:
            self.assertEqual(raised(Unfit, must_go, rules, database, [value]).index, 0, value)
            self.assertEqual(raised(Unfit, must_go, rules, database, [shop("x"), value, None]).index, 1, value)
        self.assertEqual(raised(Unfit, must_go, rules, database, [shop("x"), item("a", "x"), shop("x"), None]).index, 2)
        self.assertEqual(raised(Unfit, must_go, rules, database, (shop("x"), shop("x"))).index, 1)

    def test_no_limit(self):
        """Searches beside a database are not bound by what is wanted."""
        many = [("shop", (name,)) for name in (one + other for one in "abcdef" for other in "abcdef")]
        rules = Rules(town(), OWNED)
        database = filled(town(), shop=[row for _, row in many], item=[("a", "aa", "big")])
        self.assertEqual(must_go(rules, database, many), (item("a", "aa"),))
        try:
            self.assertEqual(mended(rules, database, change([item("b", "zz")])), (shop("zz"),))
        except TooMany:
            self.fail("mended has no limit")
