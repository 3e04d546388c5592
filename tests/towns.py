"""The schema of the document's examples, and small databases to count in."""

from itertools import chain, combinations

from onlylooks.databases import Database
from onlylooks.tables import Schema, Table


def town():
    item = Table("item", "id", "at", ("kind", ["big", "small"]))
    return Schema(item, Table("shop", "id"))


def filled(schema, **rows):
    """A database with these rows for each table that is named."""
    database = Database(schema)
    for name in rows:
        database[name] = rows[name]
    return database


def house():
    return filled(town(), item=[("b", "x", "big"), ("a", "x", "small")], shop=[("x",)])


def subsets(values):
    """All lists of some of the values."""
    return [list(some) for some in chain.from_iterable(
        combinations(values, many) for many in range(len(values) + 1))]
