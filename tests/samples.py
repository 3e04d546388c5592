"""Fields of all kinds, made by numbers, for tests that go through many of them."""

import random

from onlylooks.changes import Change
from onlylooks.errors import TooMany
from onlylooks.fields import Field
from onlylooks.rules import Rules
from onlylooks.statements import Rule, Total
from onlylooks.tables import Schema, Table
from tests.worlds import Maker


def owners(put=("a", "x")):
    """The rules and the change of the example of section 5."""
    schema = Schema(Table("item", "name", "owner"), Table("owner", "name"))
    rules = Rules(schema, Rule("item", "owner", [("owner", "name")], 1, 1), Rule("owner", "item", [("name", "owner")], 0, 2))
    return rules, Change(schema, [("item", put)], [])


def stock(*statements):
    """A field with a Total for each of up to four tables, told by (least, most) and what is put and taken."""
    tables = [Table(name, "id") for name in "tuvw"[:len(statements)]]
    rules, put, taken = [], [], []
    for table, (least, most, coming, going) in zip(tables, statements):
        rules.append(Total(table.name, least, most))
        put += [(table.name, (word,)) for word in "abc"[:coming]]
        taken += [(table.name, (word,)) for word in "xyz"[:going]]
    schema = Schema(*tables)
    return Field(Rules(schema, *rules), Change(schema, put, taken))


def wide():
    """A field with six looks, all of which have to be asked in the worst case."""
    schema = Schema(Table("item", "id", "at"), Table("shop", "id"))
    rules = Rules(schema, Rule.key("item", "id"), Rule.reference("item", "shop", [("at", "id")]))
    return Field(rules, Change(schema, [("item", row) for row in (("a", "x"), ("b", "y"), ("c", "z"))], []))


def either():
    """A field with two looks, each of which is enough: one row is there, of the one kind or of the other."""
    schema = Schema(Table("t", ("k", ["p", "q"])), Table("u", "id"))
    rules = Rules(
        schema, Total("t", 1, 1), Rule.none("u", "t", [], other_where={"k": ["p"]}),
        Rule("u", "t", [], 1, None, other_where={"k": ["q"]}))
    return Field(rules, Change(schema, [("u", ("a",))], []))


def problems(numbers):
    """The tuples (number, rules, change, field) that numbers lead to, where no limit is passed."""
    for number in numbers:
        maker = Maker(random.Random(number))
        schema = maker.schema(3, 2, 3)
        rules, change = maker.rules(schema, 5), maker.change(schema, "bc")
        try:
            yield number, rules, change, Field(rules, change)
        except TooMany:
            pass


def fields(numbers):
    """The fields that numbers lead to."""
    for _, _, _, field in problems(numbers):
        yield field


def unfit():
    """A field without answers, but with a demand."""
    return stock((0, 0, 0, 1))


def never():
    """A field with answers, none of them kept."""
    return stock((0, 0, 1, 0))


def always():
    """A field with a demand that always holds."""
    return stock((0, 3, 0, 1))
