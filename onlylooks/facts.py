"""Facts that are said of a database beside the rules [30]."""

from onlylooks.statements import check_is_of, is_statement
from onlylooks.values import fresh, is_integer, is_list, is_word


def is_row_of(name, row, schema):
    """Whether any values are the name of a table of a schema and a row of this table."""
    return name in schema and schema[name].is_row(row)


def kept_words(words):
    """A copy of the words of a Counted, with tuples for the lists at its columns."""
    if not isinstance(words, dict):
        return fresh(words)
    inner = fresh(words)
    return {key: tuple(inner[key]) if is_list(inner[key]) else inner[key] for key in inner}


def is_asked_of(table, column, asked):
    """Whether any value is what a column of a table may be asked for."""
    marks = table.marks
    if column not in marks:
        return is_word(asked)
    if is_list(asked):
        return len(asked) > 0 and all([word in marks[column] for word in asked])
    return asked in marks[column]


def are_words_of(table, words):
    """Whether any value is a dict from columns of a table to what they may be asked for."""
    if not isinstance(words, dict):
        return False
    return all([
        column in table.columns and is_asked_of(table, column, words[column])
        for column in words
    ])


def are_bounds(least, most):
    """Whether any values are a bound from below and one from above, or None for the latter."""
    if not is_integer(least) or least < 0:
        return False
    return most is None or (is_integer(most) and least <= most)


class Fact:
    """What the five kinds of facts have in common: a database shows whether they hold."""

    def __call__(self, database):
        """Whether it holds in a database."""
        raise NotImplementedError("the kinds of facts tell this")


class Present(Fact):
    """A table has a row."""

    def __init__(self, table, row):
        self._table = fresh(table)
        self._row = fresh(row)

    @property
    def table(self):
        return fresh(self._table)

    @property
    def row(self):
        return fresh(self._row)

    def is_of(self, schema):
        """Whether it is a fact of a schema."""
        return is_row_of(self._table, self._row, schema)

    def __call__(self, database):
        """Whether it holds in a database."""
        check_is_of(self, database.schema)
        return database.has_row(self._table, self._row)

    def __eq__(self, other):
        if not isinstance(other, Present):
            return False
        return self._table == other._table and self._row == other._row


class Missing(Fact):
    """A table does not have a row."""

    def __init__(self, table, row):
        self._table = fresh(table)
        self._row = fresh(row)

    @property
    def table(self):
        return fresh(self._table)

    @property
    def row(self):
        return fresh(self._row)

    def is_of(self, schema):
        """Whether it is a fact of a schema."""
        return is_row_of(self._table, self._row, schema)

    def __call__(self, database):
        """Whether it holds in a database."""
        check_is_of(self, database.schema)
        return not database.has_row(self._table, self._row)

    def __eq__(self, other):
        if not isinstance(other, Missing):
            return False
        return self._table == other._table and self._row == other._row


class Counted(Fact):
    """From least to most rows of a table fit words."""

    def __init__(self, table, words, least, most):
        self._table = fresh(table)
        self._words = kept_words(words)
        self._least = fresh(least)
        self._most = fresh(most)

    @property
    def table(self):
        return fresh(self._table)

    @property
    def words(self):
        return fresh(self._words)

    @property
    def least(self):
        return fresh(self._least)

    @property
    def most(self):
        return fresh(self._most)

    def is_of(self, schema):
        """Whether it is a fact of a schema."""
        if self._table not in schema or not are_bounds(self._least, self._most):
            return False
        return are_words_of(schema[self._table], self._words)

    def __call__(self, database):
        """Whether it holds in a database."""
        check_is_of(self, database.schema)
        many = database.count(self._table, self._words)
        return self._least <= many and (self._most is None or many <= self._most)

    def __eq__(self, other):
        return isinstance(other, Counted) and self._told() == other._told()

    def _told(self):
        return self._table, self._words, self._least, self._most


class Short(Fact):
    """At some place of a statement the count is less than its least."""

    def __init__(self, statement):
        self._statement = fresh(statement)

    @property
    def statement(self):
        return fresh(self._statement)

    def is_of(self, schema):
        """Whether it is a fact of a schema."""
        return is_statement(self._statement, schema) and self._statement.least != 0

    def __call__(self, database):
        """Whether it holds in a database."""
        check_is_of(self, database.schema)
        counts = self._statement.counts(database)
        return any([many < self._statement.least for many in counts.values()])

    def __eq__(self, other):
        return isinstance(other, Short) and self._statement == other._statement


class Long(Fact):
    """At some place of a statement the count is more than its most."""

    def __init__(self, statement):
        self._statement = fresh(statement)

    @property
    def statement(self):
        return fresh(self._statement)

    def is_of(self, schema):
        """Whether it is a fact of a schema."""
        return is_statement(self._statement, schema) and self._statement.most is not None

    def __call__(self, database):
        """Whether it holds in a database."""
        check_is_of(self, database.schema)
        counts = self._statement.counts(database)
        return any([many > self._statement.most for many in counts.values()])

    def __eq__(self, other):
        return isinstance(other, Long) and self._statement == other._statement
