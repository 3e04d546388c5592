"""Changes: rows to be put into a database and taken out of it, together [40], [41]."""

from onlylooks.databases import check_equal
from onlylooks.errors import InvalidChange, TooMany, Unfit
from onlylooks.facts import is_row_of
from onlylooks.limits import MAX_ENTRIES


def is_entry(value, schema):
    """Whether any value is a tuple of the name of a table of a schema and one of its rows."""
    return isinstance(value, tuple) and len(value) == 2 and is_row_of(value[0], value[1], schema)


def check_entries(values, schema):
    """Raises InvalidChange or TooMany if any values are not the entries of a change."""
    for index, value in enumerate(values):
        if not is_entry(value, schema) or value in values[:index]:
            raise InvalidChange(index)
    if len(values) > MAX_ENTRIES:
        raise TooMany(MAX_ENTRIES)


class Change:
    """Rows that are to come into a database, and rows that are to go out of it."""

    def __init__(self, schema, put, taken):
        check_entries([*put, *taken], schema)
        self._schema = schema
        self._put_rows = tuple(put)
        self._taken_rows = tuple(taken)

    @property
    def schema(self):
        return self._schema

    @property
    def put_rows(self):
        """The entries (table, row) that are to come in, a tuple."""
        return self._put_rows

    @property
    def taken_rows(self):
        """The entries (table, row) that are to go out, a tuple."""
        return self._taken_rows

    def _misfits(self, database):
        """The indexes of the entries that do not fit a database."""
        check_equal(self._schema, database.schema)
        there = [row in database[name] for name, row in [*self._put_rows, *self._taken_rows]]
        many = len(self._put_rows)
        return [index for index, is_there in enumerate(there) if is_there == (index < many)]

    def fits(self, database):
        """Whether no put row is in a database and all taken rows are."""
        return not self._misfits(database)

    def on(self, database):
        """A new database with the put rows and without the taken ones."""
        misfits = self._misfits(database)
        if misfits:
            raise Unfit(misfits[0])
        changed = database.copied()
        for name, row in self._put_rows:
            changed.put(name, row)
        for name, row in self._taken_rows:
            changed.take(name, row)
        return changed

    def contrary(self):
        """The change that puts the taken rows and takes the put ones."""
        return Change(self._schema, self._taken_rows, self._put_rows)

    def __len__(self):
        return len([*self._put_rows, *self._taken_rows])

    def __eq__(self, other):
        return isinstance(other, Change) and self._told() == other._told()

    def _told(self):
        return self._schema, self._put_rows, self._taken_rows
