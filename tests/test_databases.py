import unittest

from onlylooks.databases import Database
from onlylooks.errors import InvalidRow, OtherSchema, UnknownColumn, UnknownTable
from onlylooks.tables import Schema, Table
from tests.anything import any_values, is_key, is_plain
from tests.towns import filled, house, subsets, town


def pairs_of(*texts):
    """A row of two words for each text of two letters."""
    return [tuple(text) for text in texts]


def two_tables():
    return Schema(Table("one", "k", "m"), Table("two", "k"))


class RowsTest(unittest.TestCase):
    """Rows in and out of tables [12]."""

    def setUp(self):
        self.database = Database(two_tables())

    def rows(self):
        return ["".join(row) for row in self.database["one"]]

    def test_at_first_there_are_no_rows(self):
        self.assertEqual((self.database["one"], self.database["two"]), ((), ()))
        self.assertEqual(len(self.database), 0)
        self.assertEqual(self.database.schema, two_tables())

    def test_schema_by_name(self):
        self.assertEqual(Database(schema=two_tables()), self.database)

    def test_a_history(self):
        put, take = self.database.put, self.database.take
        self.assertEqual(put("one", *pairs_of("bb")), 1)
        self.assertEqual(put("one", *pairs_of("bb")), 0)
        self.assertEqual(put("one", *pairs_of("ab", "bb")), 1)
        self.assertEqual(self.rows(), ["ab", "bb"])
        self.assertEqual(put("one", *pairs_of("cc", "aa", "cc")), 2)
        self.assertEqual(self.rows(), ["aa", "ab", "bb", "cc"])
        self.assertEqual(take("one", *pairs_of("zz")), 0)
        self.assertEqual(take("one", *pairs_of("ab", "ab")), 1)
        self.assertEqual(take("one", *pairs_of("aa", "zz", "bb")), 2)
        self.assertEqual(self.rows(), ["cc"])
        self.assertEqual(put("two", ("k",)), 1)
        self.assertEqual((put("one"), take("one")), (0, 0))
        self.assertEqual(take("one", *pairs_of("cc")), 1)
        self.assertEqual(put("one", *pairs_of("ab")), 1)
        self.assertEqual((self.rows(), self.database["two"]), (["ab"], (("k",),)))
        self.assertEqual(len(self.database), 2)

    def test_results_are_integers(self):
        for result in (self.database.put("two", ("a",)), self.database.take("two", ("a",))):
            self.assertIs(type(result), int)

    def test_rows_ascend_in_a_tuple(self):
        self.database["one"] = [("b", "a"), ("ab", "a"), ("a", "b"), ("a", "ab"), ("a", "a")]
        rows = self.database["one"]
        expected = (("a", "a"), ("a", "ab"), ("a", "b"), ("ab", "a"), ("b", "a"))
        self.assertEqual(rows, expected)
        self.assertTrue(is_plain(rows) and type(rows) is tuple)

    def test_set_rows(self):
        self.database.put("one", *pairs_of("aa", "bb"))
        self.database.put("two", ("k",))
        self.database["one"] = pairs_of("cc", "bb", "cc")
        self.assertEqual(self.rows(), ["bb", "cc"])
        self.database["one"] = tuple(pairs_of("dd"))
        self.assertEqual(self.rows(), ["dd"])
        self.database["one"] = ()
        self.assertEqual((self.rows(), len(self.database)), ([], 1))

    def test_a_list_that_was_handed_in_may_change(self):
        rows = pairs_of("aa", "bb")
        self.database["one"] = rows
        rows.append(("c", "c"))
        rows.pop(0)
        self.assertEqual(self.rows(), ["aa", "bb"])
        self.database.put("one", ("x", "x"))
        self.database.take("one", ("b", "b"))
        self.assertEqual(rows, pairs_of("bb", "cc"))

    def test_not_iterated_over(self):
        with self.assertRaises(TypeError):
            list(self.database)


class WrongRowsTest(unittest.TestCase):
    """The errors of [12], and that nothing is changed then."""

    def setUp(self):
        self.database = house()

    def calls(self, name, *rows):
        """The ways of handing rows in, by what they are called."""
        return {
            "put": lambda: self.database.put(name, *rows),
            "take": lambda: self.database.take(name, *rows),
            "set": lambda: self.database.__setitem__(name, list(rows)),
        }

    def raises(self, error, value, call):
        with self.assertRaises(error) as caught:
            call()
        self.assertIs(caught.exception.value, value)
        self.assertEqual(self.database, house())

    def test_unknown_table_ahead_of_invalid_row(self):
        for value in [*any_values(), "items", "id", ("item",), ["item"], {"item": 1}]:
            with self.subTest(value=value):
                self.raises(UnknownTable, value, lambda: self.database[value])
                self.raises(UnknownTable, value, lambda: self.database.count(value, {"no": "x"}))
                self.raises(UnknownTable, value, lambda: self.database.count(value, {}))
                for call in self.calls(value, "wrong").values():
                    self.raises(UnknownTable, value, call)
                for call in self.calls(value).values():
                    self.raises(UnknownTable, value, call)

    def test_any_value_as_row(self):
        nearly = [["a", "x", "big"], ("a", "x"), ("a", "x", "old"), ("a", "x", "big", "big")]
        for value in [*any_values(), *nearly]:
            with self.subTest(value=value):
                for call in self.calls("item", value).values():
                    self.raises(InvalidRow, value, call)

    def test_the_first_wrong_row_behind_right_ones(self):
        wrong, later = ["c", "x", "big"], ("d", "x", "none")
        rows = [("c", "x", "big"), ("b", "x", "big"), wrong, ("e", "x", "big"), later]
        for name, call in self.calls("item", *rows).items():
            with self.subTest(name):
                self.raises(InvalidRow, wrong, call)

    def test_a_row_of_another_table(self):
        row = ("x",)
        for call in self.calls("item", row).values():
            self.raises(InvalidRow, row, call)

    def test_unknown_columns(self):
        for value in filter(is_key, [*any_values(), "ids", "item", "kin"]):
            with self.subTest(value=value):
                count = self.database.count
                self.raises(UnknownColumn, value, lambda: count("item", {value: "x"}))
                self.raises(UnknownColumn, value, lambda: count("item", {"id": "a", value: []}))

    def test_the_first_unknown_column(self):
        words = {"at": "x", "zz": "x", "aa": "x", 1: "x"}
        self.raises(UnknownColumn, "zz", lambda: self.database.count("item", words))


class CountTest(unittest.TestCase):
    """`count` of [12]."""

    ROWS = [(k, m, kind) for k in ("a", "ab", "b") for m in ("a", "b") for kind in ("big", "small")]

    def counted(self, words, rows=None):
        rows = self.ROWS if rows is None else rows
        return filled(town(), item=rows).count("item", words)

    def test_no_column(self):
        self.assertEqual(self.counted({}), 12)
        self.assertEqual(self.counted({}, []), 0)

    def test_one_column(self):
        self.assertEqual(self.counted({"id": "a"}), 4)
        self.assertEqual(self.counted({"at": "a"}), 6)
        self.assertEqual(self.counted({"kind": "big"}), 6)
        self.assertEqual(self.counted({"id": "c"}), 0)

    def test_several_columns(self):
        self.assertEqual(self.counted({"id": "a", "kind": "big"}), 2)
        self.assertEqual(self.counted({"kind": "big", "at": "b", "id": "a"}), 1)

    def test_a_word_that_is_the_beginning_of_another(self):
        self.assertEqual(self.counted({"id": "ab"}), 4)
        self.assertEqual(self.counted({"id": "ab"}, [("a", "x", "big"), ("b", "x", "big")]), 0)
        self.assertEqual(self.counted({"id": "a"}, [("ab", "x", "big")]), 0)
        self.assertEqual(self.counted({"kind": "bigger"}), 0)
        self.assertEqual(self.counted({"kind": "bi"}), 0)

    def test_lists_of_words(self):
        self.assertEqual(self.counted({"id": ["a"]}), 4)
        self.assertEqual(self.counted({"id": ["a", "b"]}), 8)
        self.assertEqual(self.counted({"id": ("a", "b", "a", "zz")}), 8)
        self.assertEqual(self.counted({"kind": ["big", "small"], "id": "ab"}), 4)
        self.assertEqual(self.counted({"id": ["ab", "b"], "at": ["b"], "kind": "small"}), 2)

    def test_no_words_in_a_list(self):
        self.assertEqual(self.counted({"id": []}), 0)
        self.assertEqual(self.counted({"kind": ()}), 0)
        self.assertEqual(self.counted({"id": "a", "kind": []}), 0)

    def test_words_that_no_mark_has(self):
        self.assertEqual(self.counted({"kind": "old"}), 0)
        self.assertEqual(self.counted({"kind": ["old"]}), 0)
        self.assertEqual(self.counted({"kind": ["old", "big"]}), 6)

    def test_an_integer_and_nothing_changed(self):
        words = {"kind": ["small", "big"], "id": "a"}
        self.assertIs(type(self.counted(words)), int)
        self.assertEqual(words, {"kind": ["small", "big"], "id": "a"})
        self.assertEqual(list(words), ["kind", "id"])

    def test_by_name(self):
        self.assertEqual(house().count(name="item", words={"at": "x"}), 2)

    def test_against_a_count_of_everything(self):
        asked = {
            "id": ["a", "b", ["a", "ab"], ("b",), []],
            "at": ["a", ["a", "b"], ["zz"]],
            "kind": ["big", ["small"], ["big", "small"], "old"],
        }
        choices = [{}]
        for column, some in asked.items():
            choices += [{**words, column: each} for words in choices for each in some]
        for words in choices:
            wanted = [words.get(column) for column in ("id", "at", "kind")]
            lists = [each if each is None or type(each) is not str else [each] for each in wanted]
            fit = [row for row in self.ROWS
                   if all(w is None or entry in list(w) for entry, w in zip(row, lists))]
            self.assertEqual(self.counted(words), len(fit), words)


class WholeDatabasesTest(unittest.TestCase):
    """`len`, `copied`, `==`, `is_within`, `|`, `-` and `|=` of [12]."""

    ENTRIES = [("one", ("a", "b")), ("one", ("b", "a")), ("two", ("a",)), ("two", ("b",))]

    def made(self, entries):
        database = Database(two_tables())
        for name, row in entries:
            database.put(name, row)
        return database

    def entries(self, database):
        return {(name, row) for name in database.schema.names for row in database[name]}

    def each_two(self):
        for one in subsets(self.ENTRIES):
            for other in subsets(self.ENTRIES):
                yield one, other

    def test_len(self):
        for entries in subsets(self.ENTRIES):
            self.assertEqual(len(self.made(entries)), len(entries))

    def test_copied(self):
        for entries in subsets(self.ENTRIES):
            database = self.made(entries)
            copy = database.copied()
            self.assertEqual(copy, database)
            self.assertIs(type(copy), Database)
            copy.put("one", ("z", "z"))
            copy.take("two", ("a",))
            copy["two"] = [("y",)]
            self.assertEqual(self.entries(database), set(entries))
            copy = database.copied()
            database.put("two", ("z",))
            self.assertEqual(self.entries(copy), set(entries))

    def test_equal(self):
        for one, other in self.each_two():
            same = set(one) == set(other)
            self.assertIs(self.made(one) == self.made(reversed(other)), same)
            self.assertIs(self.made(one) != self.made(other), not same)

    def test_equal_in_whichever_way_the_rows_came(self):
        database = self.made(self.ENTRIES[:2])
        rows = [row for _, row in self.ENTRIES[:2]]
        more = self.made(self.ENTRIES)
        added = Database(two_tables())
        added |= database
        ways = [filled(two_tables(), one=rows), database.copied(), database | database, added,
                more - self.made(self.ENTRIES[2:]), Database(two_tables()) | database]
        for other in ways:
            self.assertIs(database == other, True)
            self.assertIs(other == database, True)

    def test_unlike_schemas_are_unlike_databases(self):
        other = Schema(Table("two", "k"), Table("one", "k", "m"))
        self.assertIs(Database(two_tables()) == Database(other), False)
        self.assertIs(Database(two_tables()) != Database(other), True)

    def test_equal_schemas_that_are_not_the_same_one(self):
        one, other = filled(two_tables(), two=[("a",)]), filled(two_tables(), two=[("a",)])
        self.assertIs(one == other, True)
        self.assertIs(one.is_within(other), True)

    def test_other_kinds(self):
        for value in [*any_values(), two_tables(), {"one": {}, "two": {}}]:
            self.assertIs(Database(two_tables()) == value, False)
            self.assertIs(value == Database(two_tables()), False)
            self.assertIs(Database(two_tables()) != value, True)

    def test_is_within(self):
        for one, other in self.each_two():
            found = self.made(one).is_within(self.made(other))
            self.assertIs(found, set(one) <= set(other))
        self.assertIs(self.made([]).is_within(other=self.made([])), True)

    def test_either_and_without(self):
        for one, other in self.each_two():
            left, right = self.made(one), self.made(other)
            either, without = left | right, left - right
            self.assertEqual(self.entries(either), set(one) | set(other))
            self.assertEqual(self.entries(without), set(one) - set(other))
            self.assertEqual((type(either), type(without)), (Database, Database))
            self.assertEqual((left, right), (self.made(one), self.made(other)))

    def test_new_databases_are_changed_on_their_own(self):
        left, right = self.made(self.ENTRIES[:3]), self.made(self.ENTRIES[3:])
        for result in (left | right, left - right, left | left):
            result.put("two", ("z",))
            result.take("one", ("a", "b"))
        self.assertEqual(left, self.made(self.ENTRIES[:3]))
        self.assertEqual(right, self.made(self.ENTRIES[3:]))
        result = left | right
        left.put("two", ("z",))
        self.assertEqual(self.entries(result), set(self.ENTRIES))

    def test_put_into_one(self):
        for one, other in self.each_two():
            left, right = self.made(one), self.made(other)
            same = left
            left |= right
            self.assertIs(left, same)
            self.assertEqual(self.entries(left), set(one) | set(other))
            self.assertEqual(right, self.made(other))
            left.put("two", ("z",))
            right.put("one", ("z", "z"))
            self.assertEqual(self.entries(left), set(one) | set(other) | {("two", ("z",))})
            self.assertEqual(self.entries(right), set(other) | {("one", ("z", "z"))})

    def test_other_kinds_are_not_joined(self):
        for value in (None, [], {}, two_tables()):
            database = self.made(self.ENTRIES)
            with self.assertRaises(TypeError):
                database | value
            with self.assertRaises(TypeError):
                database - value
            with self.assertRaises(TypeError):
                database |= value

    def test_put_into_itself(self):
        database = self.made(self.ENTRIES[:3])
        database |= database
        self.assertEqual(database, self.made(self.ENTRIES[:3]))

    def test_put_into_changes_no_copy(self):
        database = self.made(self.ENTRIES[:1])
        copy = database.copied()
        database |= self.made(self.ENTRIES)
        self.assertEqual((len(copy), len(database)), (1, 4))

    def test_other_schema(self):
        def put_into(one, other):
            one |= other

        one = self.made(self.ENTRIES)
        shuffled = Schema(Table("two", "k"), Table("one", "k", "m"))
        for schema in (shuffled, town(), Schema(Table("one", "k", "m"))):
            other = Database(schema)
            for call in (put_into, lambda a, b: a | b, lambda a, b: a - b, Database.is_within):
                with self.assertRaises(OtherSchema):
                    call(one, other)
                with self.assertRaises(OtherSchema):
                    call(other, one)
            self.assertEqual((len(one), len(other)), (4, 0))
