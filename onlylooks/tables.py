"""Tables and schemas [10], [11]."""

from onlylooks.errors import InvalidSchema, InvalidTable, UnknownTable
from onlylooks.limits import MAX_COLUMNS, MAX_TABLES
from onlylooks.values import are_different, are_words, is_word

FEWEST_MARKS = 2
MOST_MARKS = 3


def is_mark_column(value):
    """Whether any value is a tuple of a word and the list of its marks."""
    if not isinstance(value, tuple) or len(value) != 2:
        return False
    return is_word(value[0]) and are_words(value[1], FEWEST_MARKS, MOST_MARKS)


def column_word(column):
    """The word of a name column or of a mark column."""
    return column if isinstance(column, str) else column[0]


def are_columns(values):
    """Whether any values are the columns of a table."""
    if not 1 <= len(values) <= MAX_COLUMNS:
        return False
    if not all([is_word(value) or is_mark_column(value) for value in values]):
        return False
    return are_different([column_word(value) for value in values])


def are_tables(values):
    """Whether any values are the tables of a schema."""
    if not 1 <= len(values) <= MAX_TABLES:
        return False
    if not all([isinstance(value, Table) for value in values]):
        return False
    return are_different([value.name for value in values])


def checks_of(table, words):
    """The tuples (spot, words that fit there) for words: a dict from columns to a word or a list of words."""
    # A word is not searched for in a word: it may be a part of it.
    return [
        (table.columns.index(column), (asked,) if isinstance(asked, str) else asked)
        for column, asked in words.items()
    ]


def fits(row, checks):
    """Whether a row has at each spot one of the words that fit there."""
    for spot, words in checks:
        if row[spot] not in words:
            return False
    return True


def row_fits(table, row, words):
    """Whether a row of a table fits words [12]."""
    return fits(row, checks_of(table, words))


class Table:
    """A table: its name, and its name columns and mark columns in order [10]."""

    def __init__(self, name, *columns):
        if not is_word(name):
            raise InvalidTable("name")
        if not are_columns(columns):
            raise InvalidTable("columns")
        marked = sorted([column for column in columns if isinstance(column, tuple)])
        self._name = name
        self._columns = tuple([column_word(column) for column in columns])
        self._marks = {word: tuple(marks) for word, marks in marked}

    @property
    def name(self):
        return self._name

    @property
    def columns(self):
        """The words of all columns in order, a tuple."""
        return self._columns

    @property
    def marks(self):
        """A dict from the mark columns to the tuples of their words."""
        return dict(self._marks)

    def is_row(self, value):
        """Whether any value is a row of the table."""
        if not isinstance(value, tuple) or len(value) != len(self._columns):
            return False
        return all([self._is_entry(column, entry) for column, entry in zip(self._columns, value)])

    def _is_entry(self, column, entry):
        return is_word(entry) and entry in self._marks.get(column, (entry,))

    def __eq__(self, other):
        return isinstance(other, Table) and self._told() == other._told()

    def _told(self):
        return self._name, self._columns, self._marks


class Schema:
    """One to four tables with different names, in order [11]."""

    def __init__(self, *tables):
        if not are_tables(tables):
            raise InvalidSchema()
        self._tables = tables
        self._names = tuple([table.name for table in tables])

    @property
    def names(self):
        """The names of the tables in order, a tuple."""
        return self._names

    def __getitem__(self, at):
        """The table of a name."""
        for name, table in zip(self._names, self._tables):
            if name == at:
                return table
        raise UnknownTable(at)

    def __contains__(self, x):
        """Whether any value is the name of a table."""
        return x in self._names

    # Without this, Python would go over a schema by indexes.
    def __iter__(self):
        raise TypeError("a schema is not iterated over")

    def __len__(self):
        return len(self._tables)

    def __eq__(self, other):
        return isinstance(other, Schema) and self._tables == other._tables
