"""Databases: a set of rows for each table of a schema [12]."""

from onlylooks.errors import InvalidRow, OtherSchema, UnknownColumn, UnknownTable
from onlylooks.tables import checks_of, fits


def check_rows(table, values):
    """Raises InvalidRow for the first one of any values that is no row of a table."""
    for value in values:
        if not table.is_row(value):
            raise InvalidRow(value)


def check_columns(table, words):
    """Raises UnknownColumn for the first key of words that is no column of a table."""
    for column in words:
        if column not in table.columns:
            raise UnknownColumn(column)


def check_equal(one, other):
    """Raises OtherSchema for unlike schemas."""
    if one != other:
        raise OtherSchema()


def matching(database, name, words, where):
    """How many rows of a table fit words and fit a where, too, both dicts as [12] tells."""
    table = database.schema[name]
    return len(database.fitting(name, [*checks_of(table, words), *checks_of(table, where)]))


def database_with(schema, entries):
    """The Database with rows of a schema, told by tuples (table, row)."""
    return Database(schema, _rows={
        name: {row: True for table, row in entries if table == name} for name in schema.names
    })


class Database:
    """The rows of each table of a schema, at first none."""

    # _rows is for operators, which may not fill a database once it is made.
    def __init__(self, schema, *, _rows=None):
        self._schema = schema
        # A dict of rows for each table: it is told at once whether a row is there.
        self._rows = {name: {} for name in schema.names} if _rows is None else _rows

    @property
    def schema(self):
        return self._schema

    def __getitem__(self, at):
        """The rows of the table of a name, ascending, a tuple."""
        if at not in self._schema:
            raise UnknownTable(at)
        return tuple(sorted(list(self._rows[at])))

    def __setitem__(self, at, worth):
        """Gives the table of a name the rows of a list, and no others."""
        check_rows(self._schema[at], worth)
        self._rows[at] = {row: True for row in worth}

    # Without this, Python would go over a database by indexes.
    def __iter__(self):
        raise TypeError("a database is not iterated over")

    def put(self, name, *rows):
        """Puts rows in; returns how many rows more the table has then."""
        check_rows(self._schema[name], rows)
        there = self._rows[name]
        before = len(there)
        for row in rows:
            there[row] = True
        return len(there) - before

    def take(self, name, *rows):
        """Takes rows out; returns how many fewer the table has then."""
        check_rows(self._schema[name], rows)
        there = self._rows[name]
        before = len(there)
        for row in rows:
            there.pop(row, None)
        return before - len(there)

    def count(self, name, words):
        """The number of rows that fit words: a dict from columns to a word or a list of words."""
        table = self._schema[name]
        check_columns(table, words)
        return len(self.fitting(name, checks_of(table, words)))

    def fitting(self, name, checks):
        """The rows that have at each spot one of the words that fit there, in no order that is told."""
        return [row for row in self._rows[name] if fits(row, checks)]

    def has_row(self, name, row):
        """Whether a row is there."""
        return row in self._rows[name]

    def copied(self):
        """An equal database that is changed on its own."""
        rows = {name: {row: True for row in self._rows[name]} for name in self._rows}
        return Database(self._schema, _rows=rows)

    def is_within(self, other):
        """Whether each row is there in another database."""
        check_equal(self._schema, other._schema)
        return all([row in other._rows[name] for name in self._rows for row in self._rows[name]])

    def _joined(self, other):
        """The rows of each table in either of two databases."""
        return {
            name: {row: True for row in [*self._rows[name], *other._rows[name]]}
            for name in self._rows
        }

    def __or__(self, other):
        if not isinstance(other, Database):
            return NotImplemented
        check_equal(self._schema, other._schema)
        return Database(self._schema, _rows=self._joined(other))

    def __ior__(self, other):
        if not isinstance(other, Database):
            return NotImplemented
        check_equal(self._schema, other._schema)
        self._rows = self._joined(other)
        return self

    def __sub__(self, other):
        if not isinstance(other, Database):
            return NotImplemented
        check_equal(self._schema, other._schema)
        rows = {
            name: {row: True for row in self._rows[name] if row not in other._rows[name]}
            for name in self._rows
        }
        return Database(self._schema, _rows=rows)

    def __len__(self):
        return len([row for name in self._rows for row in self._rows[name]])

    def __eq__(self, other):
        if not isinstance(other, Database):
            return False
        return self._schema == other._schema and self._rows == other._rows
