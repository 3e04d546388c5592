"""The schema of the document's examples, and small databases to count in."""

from itertools import chain, combinations

from onlylooks.changes import Change
from onlylooks.databases import Database
from onlylooks.tables import Schema, Table


def town():
    item = Table("item", "id", "at", ("kind", ["big", "small"]))
    return Schema(item, Table("shop", "id"))


def item(name, at, kind="big"):
    """An entry of a change, or a row to be taken."""
    return ("item", (name, at, kind))


def shop(name):
    return ("shop", (name,))


def change(put=(), taken=(), schema=None):
    return Change(town() if schema is None else schema, list(put), list(taken))


def filled(schema, **rows):
    """A database with these rows for each table that is named."""
    database = Database(schema)
    for name in rows:
        database[name] = rows[name]
    return database


def house():
    return filled(town(), item=[("b", "x", "big"), ("a", "x", "small")], shop=[("x",)])


def subsets(values):
    """All lists of some of the values."""
    return [list(some) for some in chain.from_iterable(
        combinations(values, many) for many in range(len(values) + 1))]
