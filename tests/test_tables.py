import unittest

from onlylooks.errors import InvalidTable
from onlylooks.tables import Table
from tests.anything import any_values


def item():
    return Table("item", "id", "at", ("kind", ["big", "small"]))


class TableTest(unittest.TestCase):
    """[10]"""

    def refused(self, argument, name, *columns):
        with self.assertRaises(InvalidTable) as caught:
            Table(name, *columns)
        self.assertEqual(caught.exception.argument, argument)

    def test_one_to_three_columns(self):
        for columns in (("a",), ("b", "a"), ("c", "a", "b"), ("item",)):
            table = Table("item", *columns)
            self.assertEqual((table.name, table.columns, table.marks), ("item", columns, {}))

    def test_name_by_name(self):
        with self.assertRaises(InvalidTable) as caught:
            Table(name="item")
        self.assertEqual(caught.exception.argument, "columns")

    def test_name_columns_and_mark_columns(self):
        table = Table("t", ("b", ["y", "x"]), "c", ("a", ("z", "x", "y")))
        self.assertEqual(table.columns, ("b", "c", "a"))
        self.assertEqual(table.marks, {"a": ("z", "x", "y"), "b": ("y", "x")})
        self.assertEqual(list(table.marks), ["a", "b"])
        self.assertIs(type(table.columns), tuple)
        self.assertIs(type(table.marks), dict)
        self.assertEqual({type(words) for words in table.marks.values()}, {tuple})

    def test_words_at_their_bounds(self):
        for word in ("a", "z", "abcdefgh"):
            table = Table(word, word, ("lid", [word, "yy"]))
            self.assertEqual((table.name, table.columns), (word, (word, "lid")))
            self.assertEqual(table.marks, {"lid": (word, "yy")})

    def test_any_value_as_name(self):
        for value in any_values():
            with self.subTest(value=value):
                self.refused("name", value, "id")
                self.refused("name", value, value)
                self.refused("name", value)

    def test_too_few_and_too_many_columns(self):
        self.refused("columns", "t")
        self.refused("columns", "t", "a", "b", "c", "d")

    def test_any_value_as_column(self):
        for value in any_values():
            with self.subTest(value=value):
                self.refused("columns", "t", value)
                self.refused("columns", "t", "a", value)
                self.refused("columns", "t", value, "a", "b")

    def test_columns_that_are_nearly_mark_columns(self):
        two = ["x", "y"]
        for column in (["k", two], ("k",), ("k", two, two), ("k", "x", "y"), (two, "k"), ("k", "xy")):
            with self.subTest(column=column):
                self.refused("columns", "t", column)

    def test_any_value_as_word_of_a_mark_column(self):
        for value in any_values():
            with self.subTest(value=value):
                self.refused("columns", "t", (value, ["x", "y"]))

    def test_any_value_as_the_words_of_a_mark_column(self):
        right = [["a", "b"], ("a", "b"), ["a", "b", "c"], ("a", "b", "c")]
        for value in any_values():
            with self.subTest(value=value):
                if value in right:
                    self.assertEqual(Table("t", ("k", value)).marks, {"k": tuple(value)})
                else:
                    self.refused("columns", "t", ("k", value))

    def test_any_value_among_the_words_of_a_mark_column(self):
        for value in any_values():
            with self.subTest(value=value):
                self.refused("columns", "t", ("k", ["x", value]))
                self.refused("columns", "t", ("k", [value, "x", "y"]))

    def test_one_mark_too_few_or_too_many(self):
        for words in ([], ["a"], ["a", "b", "c", "d"]):
            self.refused("columns", "t", ("k", words))

    def test_equal_columns(self):
        self.refused("columns", "t", "a", "a")
        self.refused("columns", "t", "a", "b", "a")
        self.refused("columns", "t", "a", ("a", ["x", "y"]))
        self.refused("columns", "t", ("a", ["x", "y"]), "b", ("a", ["z", "y"]))

    def test_equal_marks(self):
        self.refused("columns", "t", ("k", ["a", "a"]))
        self.refused("columns", "t", ("k", ["a", "b", "a"]))
        self.refused("columns", "t", ("k", ("a", "b", "b")))

    def test_marks_are_new_at_each_access(self):
        table = item()
        marks = table.marks
        marks["kind"] = ("old", "new")
        marks["at"] = ("x", "y")
        self.assertEqual(table.marks, {"kind": ("big", "small")})
        self.assertTrue(table.is_row(("a", "b", "big")))

    def test_a_list_that_was_handed_in_is_copied(self):
        words = ["big", "small"]
        table = Table("item", "id", ("kind", words))
        words.append("old")
        words[0] = "new"
        self.assertEqual(table.marks, {"kind": ("big", "small")})
        self.assertTrue(table.is_row(("a", "big")))
        self.assertFalse(table.is_row(("a", "old")))

    def test_arguments_are_not_changed(self):
        column = ("kind", ["small", "big"])
        Table("item", column)
        self.assertEqual(column, ("kind", ["small", "big"]))

    def test_is_row_of_rows(self):
        for row in (("a", "b", "big"), ("a", "a", "small"), ("abcdefgh", "z", "big")):
            self.assertIs(item().is_row(row), True)
        self.assertIs(Table("t", "a").is_row(("x",)), True)
        self.assertIs(item().is_row(value=("a", "b", "big")), True)

    def test_is_row_with_one_entry_otherwise(self):
        for value in [*any_values(), ["x"]]:
            with self.subTest(value=value):
                self.assertIs(item().is_row((value, "b", "big")), False)
                self.assertIs(item().is_row(("a", value, "big")), False)
                self.assertIs(item().is_row(("a", "b", value)), False)
        self.assertIs(item().is_row(("a", "b", "old")), False)
        self.assertIs(item().is_row(("a", "b", "bi")), False)

    def test_is_row_of_other_lengths_and_kinds(self):
        for value in ((), ("a",), ("a", "b"), ("a", "b", "big", "big"), ("big", "a", "b"),
                      ["a", "b", "big"], "abc", {"a": 1, "b": 2, "big": 3}):
            with self.subTest(value=value):
                self.assertIs(item().is_row(value), False)

    def test_is_row_of_any_value(self):
        for value in any_values():
            with self.subTest(value=value):
                self.assertIs(Table("t", "x", ("k", ["u", "v"])).is_row(value), False)


class EqualTablesTest(unittest.TestCase):
    """`==` of [10], and `!=`."""

    def test_equal(self):
        self.assertIs(item() == item(), True)
        self.assertIs(item() != item(), False)
        self.assertIs(item() == Table("item", "id", "at", ("kind", ("big", "small"))), True)

    def test_unlike(self):
        others = [
            Table("items", "id", "at", ("kind", ["big", "small"])),
            Table("item", "ids", "at", ("kind", ["big", "small"])),
            Table("item", "at", "id", ("kind", ["big", "small"])),
            Table("item", ("kind", ["big", "small"]), "id", "at"),
            Table("item", "id", "at", ("kind", ["small", "big"])),
            Table("item", "id", "at", ("kind", ["big", "old"])),
            Table("item", "id", "at", ("kind", ["big", "small", "old"])),
            Table("item", "id", "at", "kind"),
            Table("item", "id", ("at", ["big", "small"]), "kind"),
            Table("item", "id", "at"),
        ]
        for other in others:
            with self.subTest(columns=other.columns, marks=other.marks):
                self.assertIs(item() == other, False)
                self.assertIs(item() != other, True)

    def test_other_kinds(self):
        for value in [*any_values(), "item", object()]:
            self.assertIs(item() == value, False)
            self.assertIs(value == item(), False)
            self.assertIs(item() != value, True)
