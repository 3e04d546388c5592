import unittest

from onlylooks.databases import Database
from onlylooks.errors import OtherSchema
from onlylooks.statements import Rule, Total
from onlylooks.tables import Schema, Table
from tests.anything import is_plain
from tests.towns import filled, house, subsets, town

LID = ("lid", ["open", "shut", "ajar"])


def boxes():
    """Name columns, and mark columns with equal words, with some more, and in other orders."""
    return Schema(
        Table("box", "id", LID, ("look", ["open", "shut"])),
        Table("ball", "id", "box", ("lid", ["open", "shut", "ajar"])),
        Table("bag", ("lid", ["shut", "open", "ajar"]), ("look", ["shut", "open"]), "id"),
    )


def fits(schema, name, row, where):
    """Whether a row fits where, by a second way of telling it."""
    entries = dict(zip(schema[name].columns, row))
    return all(entries[column] in list(words) for column, words in where.items())


def expected_counts(statement, database):
    """The counts, by going through all rows for each place."""
    schema = database.schema
    rows = [row for row in database[statement.table]
            if fits(schema, statement.table, row, statement.where)]
    if isinstance(statement, Total):
        return {(): len(rows)}
    there, beside = schema[statement.table].columns, schema[statement.other].columns
    counts = {}
    for row in rows:
        place = tuple(row[there.index(first)] for first, _ in statement.pairs)
        counts[place] = 0
        for other in database[statement.other]:
            alike = all(other[beside.index(second)] == entry
                        for entry, (_, second) in zip(place, statement.pairs))
            if alike and fits(schema, statement.other, other, statement.other_where):
                counts[place] += 1
    return counts


class OfSchemaTest(unittest.TestCase):
    """Statements that are of a schema, and such that are not [21]."""

    def check(self, is_right, *statements):
        for statement in statements:
            for call in (statement, statement.counts, statement.broken):
                if is_right:
                    call(Database(boxes()))
                else:
                    with self.assertRaises(OtherSchema):
                        call(Database(boxes()))

    def joined(self, table, other, *pairs):
        return Rule(table, other, list(pairs), 1, 2)

    def test_tables(self):
        self.check(True, self.joined("box", "ball"), self.joined("box", "box"), Total("bag", 0, 1))
        self.check(False, self.joined("boxes", "ball"), self.joined("box", "balls"),
                   self.joined("id", "id"), Total("lid", 0, 1), Total("bags", 0, 1))

    def test_columns(self):
        self.check(True, self.joined("box", "ball", ("id", "box")), Rule.key("ball", "box", "id"),
                   self.joined("box", "bag", ("id", "id")))
        self.check(False, self.joined("box", "ball", ("box", "id")), Rule.key("ball", "look"),
                   self.joined("box", "ball", ("id", "id"), ("lid", "look")),
                   self.joined("box", "ball", ("id", "ids")), Rule.key("box", "box"))

    def test_a_name_column_beside_a_mark_column(self):
        self.check(False, self.joined("box", "ball", ("id", "lid")),
                   self.joined("box", "ball", ("lid", "id")),
                   self.joined("box", "ball", ("id", "id"), ("lid", "box")),
                   self.joined("box", "box", ("id", "look")))

    def test_two_mark_columns(self):
        self.check(True, self.joined("box", "ball", ("lid", "lid")), Rule.key("bag", "lid", "look"))
        self.check(False, self.joined("box", "bag", ("lid", "lid")),
                   self.joined("box", "bag", ("look", "look")),
                   self.joined("box", "box", ("lid", "look")),
                   self.joined("box", "bag", ("id", "id"), ("lid", "lid")))

    def wheres(self, where):
        """Statements with this where, for the table box."""
        return [
            Total("box", 0, 1, where=where), Rule("box", "ball", [], 1, 2, where=where),
            Rule("ball", "box", [], 1, 2, other_where=where),
            Rule("ball", "box", [("box", "id")], 1, 2, other_where=where),
        ]

    def test_wheres(self):
        for where in ({"lid": ["open"]}, {"lid": ["ajar", "shut"]}, {"look": ["shut"]}, {},
                      {"look": ["open"], "lid": ["shut", "open"]}):
            self.check(True, *self.wheres(where))

    def test_where_with_no_such_column_or_a_name_column(self):
        for where in ({"id": ["open"]}, {"box": ["open"]}, {"lids": ["open"]},
                      {"lid": ["open"], "id": ["a"]}):
            self.check(False, *self.wheres(where))

    def test_where_with_a_word_that_is_no_mark(self):
        for where in ({"lid": ["old"]}, {"lid": ["open", "old"]}, {"look": ["ajar"]},
                      {"lid": ["open"], "look": ["old"]}, {"look": ["ope"]}):
            self.check(False, *self.wheres(where))

    def test_where_with_all_marks(self):
        self.check(False, *self.wheres({"look": ["open", "shut"]}))
        self.check(False, *self.wheres({"lid": ["open"], "look": ["shut", "open"]}))

    def test_where_of_the_other_table(self):
        self.check(False, Rule("ball", "box", [], 1, 2, where={"look": ["open"]}),
                   Rule("box", "ball", [], 1, 2, other_where={"look": ["open"]}))
        self.check(True, Rule("ball", "box", [], 1, 2, where={"lid": ["open"]}))

    def test_a_schema_of_which_it_is_beside_others(self):
        more = Schema(Table("other", "id"), *[town()[name] for name in town().names])
        self.assertEqual(Total("shop", 0, 1).counts(Database(more)), {(): 0})
        self.assertIs(Total("shop", 0, 1)(Database(more)), True)


class CountsTest(unittest.TestCase):
    """Places and counts [21]."""

    ENTRIES = [
        ("box", ("a", "open", "open")), ("box", ("a", "shut", "open")), ("box", ("b", "open", "shut")),
        ("ball", ("a", "a", "open")), ("ball", ("b", "a", "shut")), ("ball", ("b", "c", "open")),
    ]
    PAIRS = [
        [], [("id", "box")], [("id", "id")], [("lid", "lid")], [("lid", "lid"), ("id", "box")],
        [("id", "box"), ("lid", "lid")],
    ]
    WHERES = [None, {"lid": ["open"]}, {"lid": ["shut", "ajar"]}]

    def databases(self):
        for entries in subsets(self.ENTRIES):
            database = Database(boxes())
            for name, row in entries:
                database.put(name, row)
            yield database

    def statements(self):
        for where in self.WHERES:
            for least, most in ((0, 0), (0, 1), (1, 1), (1, None), (2, 3)):
                yield Total("box", least, most, where=where)
                yield Rule("box", "box", [("id", "id")], least, most, where=where)
                yield Rule("ball", "ball", [("id", "box")], least, most, other_where=where)
                for pairs in self.PAIRS:
                    for other_where in self.WHERES:
                        yield Rule("box", "ball", pairs, least, most,
                                   where=where, other_where=other_where)

    def test_against_a_count_of_everything(self):
        databases = list(self.databases())
        for number, statement in enumerate(self.statements()):
            for database in databases[number & 1::2]:
                self.check(statement, database)

    def check(self, statement, database):
        expected = expected_counts(statement, database)
        counts, broken = statement.counts(database), statement.broken(database)
        self.assertEqual(counts, expected)
        self.assertEqual(list(counts), sorted(expected))
        most = 99 if statement.most is None else statement.most
        wrong = [place for place in sorted(expected)
                 if not statement.least <= expected[place] <= most]
        self.assertEqual(broken, tuple(wrong))
        self.assertIs(statement(database), wrong == [])

    def test_kinds(self):
        rule, total = Rule.reference("item", "shop", [("at", "id")]), Total("item", 0, 1)
        database = filled(town(), item=[("a", "x", "big"), ("b", "y", "big")])
        for statement in (rule, total):
            for told in (statement.counts(database), statement.broken(database)):
                self.assertTrue(is_plain(told))
            self.assertIs(type(statement.counts(database)), dict)
            self.assertIs(type(statement.broken(database)), tuple)

    def test_by_name(self):
        for statement in (Rule.key("item", "id"), Total("item", 0, 2)):
            self.assertIs(statement(database=house()), True)
            self.assertEqual(statement.broken(database=house()), ())
            self.assertEqual(len(statement.counts(database=house())), len(statement.counts(house())))

    def test_no_pairs(self):
        rule = Rule("shop", "item", [], 1, 2)
        self.assertEqual(rule.counts(Database(town())), {})
        self.assertEqual(rule.counts(filled(town(), item=[("a", "x", "big")])), {})
        self.assertEqual(rule.counts(filled(town(), shop=[("x",), ("y",)])), {(): 0})
        self.assertEqual(rule.counts(house()), {(): 2})

    def test_one_pair(self):
        rule = Rule("shop", "item", [("id", "at")], 0, 1)
        database = filled(town(), shop=[("z",), ("x",), ("y",)],
                          item=[("a", "x", "big"), ("b", "x", "big"), ("c", "w", "big")])
        self.assertEqual(list(rule.counts(database).items()), [(("x",), 2), (("y",), 0), (("z",), 0)])
        self.assertEqual(rule.broken(database), (("x",),))

    def test_places_ascend_as_tuples(self):
        rows = [("ab", "a", "big"), ("a", "b", "big"), ("b", "a", "big"), ("a", "ab", "small")]
        counts = Rule.key("item", "id", "at").counts(filled(town(), item=rows))
        self.assertEqual(list(counts), [("a", "ab"), ("a", "b"), ("ab", "a"), ("b", "a")])

    def test_a_place_is_in_the_order_of_the_pairs(self):
        counts = Rule.key("item", "kind", "id").counts(filled(town(), item=[("a", "x", "big")]))
        self.assertEqual(counts, {("big", "a"): 1})

    def test_a_row_counts_for_its_own_place(self):
        rule = Rule("item", "item", [("id", "at")], 0, 3)
        database = filled(town(), item=[("a", "a", "big"), ("b", "a", "big"), ("c", "d", "big")])
        self.assertEqual(rule.counts(database), {("a",): 2, ("b",): 0, ("c",): 0})

    def test_a_table_beside_itself_with_wheres(self):
        rule = Rule("item", "item", [("at", "at")], 1, 1, where={"kind": ["small"]},
                    other_where={"kind": ["big"]})
        rows = [("a", "x", "small"), ("b", "x", "big"), ("c", "y", "small"), ("d", "z", "big")]
        database = filled(town(), item=rows)
        self.assertEqual(rule.counts(database), {("x",): 1, ("y",): 0})
        self.assertEqual(rule.broken(database), (("y",),))

    def test_rows_of_other_that_belong_to_none_break_nothing(self):
        rule = Rule.none("shop", "item", [("id", "at")])
        self.assertIs(rule(filled(town(), item=[("a", "x", "big")])), True)

    def test_new_dicts(self):
        rule = Rule.key("item", "id")
        counts = rule.counts(house())
        counts.clear()
        self.assertEqual(len(rule.counts(house())), 2)

    def test_the_database_is_not_changed(self):
        database = house()
        Rule.key("item", "id").counts(database)
        Total("item", 0, 1).broken(database)
        self.assertEqual(database, house())


class BoundsTest(unittest.TestCase):
    """Bounds that are met, passed by one and missed by one [21]."""

    def check(self, make, fill):
        bounds = [(low, high) for low in range(3) for high in range(low, 4)] + [(1, None), (2, None)]
        for least, most in bounds:
            statement = make(least, most)
            for many in range(6):
                is_kept = least <= many and (most is None or many <= most)
                database = fill(many)
                self.assertIs(statement(database), is_kept, (least, most, many))
                self.assertEqual(len(statement.broken(database)), 0 if is_kept else 1)
                self.assertEqual(list(statement.counts(database).values()), [many])

    def items(self, many):
        return [("abcdef"[at], "x", "big") for at in range(many)]

    def test_totals(self):
        self.check(lambda least, most: Total("item", least, most),
                   lambda many: filled(town(), item=self.items(many)))

    def test_totals_with_where(self):
        small = [("s", "x", "small"), ("t", "y", "small")]
        self.check(lambda least, most: Total("item", least, most, where={"kind": ["big"]}),
                   lambda many: filled(town(), item=[*self.items(many), *small]))

    def test_rules(self):
        self.check(lambda least, most: Rule("shop", "item", [("id", "at")], least, most),
                   lambda many: filled(town(), shop=[("x",)], item=self.items(many)))

    def test_totals_of_no_rows(self):
        for where in (None, {"kind": ["big"]}):
            self.assertIs(Total("item", 0, 0, where=where)(Database(town())), True)
            self.assertEqual(Total("item", 1, 2, where=where).broken(Database(town())), ((),))
            self.assertEqual(Total("item", 1, 2, where=where).counts(Database(town())), {(): 0})

    def test_rules_of_no_rows(self):
        rule = Rule("shop", "item", [("id", "at")], 2, 3)
        self.assertIs(rule(Database(town())), True)
        self.assertEqual((rule.counts(Database(town())), rule.broken(Database(town()))), ({}, ()))
