"""Changes: rows to be put into a database and taken out of it, together [40], [41]."""

from onlylooks.databases import check_equal
from onlylooks.errors import InvalidChange, TooMany, Unfit
from onlylooks.facts import is_row_of
from onlylooks.limits import MAX_ENTRIES


def is_entry(value, schema):
    """Whether any value is a tuple of the name of a table of a schema and one of its rows."""
    return isinstance(value, tuple) and len(value) == 2 and is_row_of(value[0], value[1], schema)


def check_entries(values, schema):
    """Raises InvalidChange or TooMany if any values are not the entries of a change."""
    for index, value in enumerate(values):
        if not is_entry(value, schema) or value in values[:index]:
            raise InvalidChange(index)
    if len(values) > MAX_ENTRIES:
        raise TooMany(MAX_ENTRIES)


def check_fits(change, database):
    """Raises Unfit for the first entry of a change that does not fit a database."""
    misfits = change.misfits(database)
    if misfits:
        raise Unfit(misfits[0])


def do_in(database, change):
    """Puts and takes the rows of a change that fits a database."""
    for name, row in change.put_rows:
        database.put(name, row)
    for name, row in change.taken_rows:
        database.take(name, row)


class Change:
    """Rows that are to come into a database, and rows that are to go out of it."""

    def __init__(self, schema, put, taken):
        check_entries([*put, *taken], schema)
        self._schema = schema
        self._put_rows = tuple(put)
        self._taken_rows = tuple(taken)

    @property
    def schema(self):
        return self._schema

    @property
    def put_rows(self):
        """The entries (table, row) that are to come in, a tuple."""
        return self._put_rows

    @property
    def taken_rows(self):
        """The entries (table, row) that are to go out, a tuple."""
        return self._taken_rows

    def misfits(self, database):
        """The indexes of the entries that do not fit a database."""
        check_equal(self._schema, database.schema)
        there = [database.has_row(name, row) for name, row in [*self._put_rows, *self._taken_rows]]
        many = len(self._put_rows)
        return [index for index, is_there in enumerate(there) if is_there == (index < many)]

    def fits(self, database):
        """Whether no put row is in a database and all taken rows are."""
        return not self.misfits(database)

    def on(self, database):
        """A new database with the put rows and without the taken ones."""
        check_fits(self, database)
        changed = database.copied()
        do_in(changed, self)
        return changed

    def contrary(self):
        """The change that puts the taken rows and takes the put ones."""
        return Change(self._schema, self._taken_rows, self._put_rows)

    def __len__(self):
        return len([*self._put_rows, *self._taken_rows])

    def __eq__(self, other):
        return isinstance(other, Change) and self._told() == other._told()

    def _told(self):
        return self._schema, self._put_rows, self._taken_rows
