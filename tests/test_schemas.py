import unittest

from onlylooks.errors import InvalidSchema, UnknownTable
from onlylooks.tables import Schema, Table
from tests.anything import any_values

NAMES = ("d", "b", "c", "a", "e")


def tables(many):
    return [Table(name, "id") for name in NAMES[:many]]


class SchemaTest(unittest.TestCase):
    """[11]"""

    def refused(self, *values):
        with self.assertRaises(InvalidSchema):
            Schema(*values)

    def test_one_to_four_tables(self):
        for many in (1, 2, 3, 4):
            schema = Schema(*tables(many))
            self.assertEqual(schema.names, NAMES[:many])
            self.assertIs(type(schema.names), tuple)
            self.assertEqual(len(schema), many)
            for table in tables(many):
                self.assertEqual(schema[table.name], table)

    def test_none_and_five(self):
        self.refused()
        self.refused(*tables(5))

    def test_equal_names(self):
        self.refused(Table("a", "id"), Table("a", "at"))
        self.refused(Table("a", "id"), Table("b", "id"), Table("a", "id"))

    def test_values_that_are_no_tables(self):
        for value in [*any_values(), "item", Schema(*tables(1)), object(), Table]:
            with self.subTest(value=value):
                self.refused(value)
                self.refused(*tables(2), value)
                self.refused(value, *tables(3))

    def test_unknown_tables(self):
        schema = Schema(*tables(3))
        for value in [*any_values(), "e", "da", ("d",), ["d"], {"d": 1}, Table("d", "id")]:
            with self.subTest(value=value):
                with self.assertRaises(UnknownTable) as caught:
                    schema[value]
                self.assertIs(caught.exception.value, value)

    def test_in(self):
        schema = Schema(*tables(3))
        for name in NAMES:
            self.assertIs(name in schema, name in NAMES[:3])
        for value in [*any_values(), ("d",), ["d"], {"d": 1}, Table("d", "id")]:
            with self.subTest(value=value):
                self.assertIs(value in schema, False)
                self.assertIs(value not in schema, True)

    def test_not_iterated_over(self):
        with self.assertRaises(TypeError):
            list(Schema(*tables(2)))

    def test_equal(self):
        self.assertIs(Schema(*tables(3)) == Schema(*tables(3)), True)
        self.assertIs(Schema(*tables(3)) != Schema(*tables(3)), False)

    def test_unlike(self):
        schema = Schema(*tables(2))
        others = [
            Schema(*tables(1)), Schema(*tables(3)), Schema(*reversed(tables(2))),
            Schema(Table("d", "id"), Table("b", "at")), Schema(Table("d", "id"), Table("c", "id")),
        ]
        for other in others:
            self.assertIs(schema == other, False)
            self.assertIs(schema != other, True)

    def test_other_kinds(self):
        schema = Schema(*tables(1))
        for value in [*any_values(), tables(1), tuple(tables(1)), tables(1)[0]]:
            self.assertIs(schema == value, False)
            self.assertIs(value == schema, False)
            self.assertIs(schema != value, True)
