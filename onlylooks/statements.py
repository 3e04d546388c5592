"""Statements about a whole database: Rule and Total [20], [21]."""

from onlylooks.errors import InvalidRule, OtherSchema
from onlylooks.limits import MAX_LEAST, MAX_MOST
from onlylooks.tables import checks_of
from onlylooks.values import are_different, are_words, is_integer, is_list, is_word

MAX_PAIRS = 2
MAX_CHOICE = 2


def check_argument(is_right, argument):
    """Raises InvalidRule with the name of an argument that is not right."""
    if not is_right:
        raise InvalidRule(argument)


def is_pair(value):
    """Whether any value is a tuple of two columns."""
    if not isinstance(value, tuple) or len(value) != 2:
        return False
    return is_word(value[0]) and is_word(value[1])


def are_pairs(value):
    """Whether any value is a list of pairs of columns, no column twice on its side."""
    if not is_list(value) or len(value) > MAX_PAIRS:
        return False
    if not all([is_pair(each) for each in value]):
        return False
    return are_different(firsts_of(value)) and are_different(seconds_of(value))


def firsts_of(pairs):
    return [first for first, _ in pairs]


def seconds_of(pairs):
    return [second for _, second in pairs]


def is_least(value):
    """Whether any value is a bound from below."""
    return is_integer(value) and 0 <= value <= MAX_LEAST


def is_most(value, least):
    """Whether any value is a bound from above beside a bound from below, or None beside it."""
    if value is None:
        return least > 0
    return is_integer(value) and least <= value <= MAX_MOST


def is_where(value):
    """Whether any value is None, or a dict from columns to one or two different words."""
    if value is None:
        return True
    if not isinstance(value, dict):
        return False
    return all([is_word(key) and are_words(value[key], 1, MAX_CHOICE) for key in value])


def kept_where(where):
    """The dict that a where is kept as: words are tuples, all in ascending order."""
    if where is None:
        return {}
    return {column: tuple(sorted(where[column])) for column in sorted(where)}


def are_joined(table, other, pairs):
    """Whether pairs have columns of both tables, of one kind and with equal marks."""
    marks, other_marks = table.marks, other.marks
    return all([
        first in table.columns and second in other.columns
        and marks.get(first) == other_marks.get(second)
        for first, second in pairs
    ])


def is_where_of(table, where):
    """Whether a where has mark columns of a table, with some of their words, but not all."""
    marks = table.marks
    return all([
        column in marks and len(where[column]) < len(marks[column])
        and all([word in marks[column] for word in where[column]])
        for column in where
    ])


def is_statement(value, schema):
    """Whether any value is a statement of a schema."""
    return isinstance(value, (Rule, Total)) and value.is_of(schema)


def check_is_of(told, schema):
    """Raises OtherSchema for a statement or a fact that is not of a schema."""
    if not told.is_of(schema):
        raise OtherSchema()


def entries(database, name, columns, where):
    """The entries in some columns of the rows of a table that fit where, a tuple for each row."""
    table = database.schema[name]
    spots = [table.columns.index(column) for column in columns]
    rows = database.fitting(name, checks_of(table, where))
    return [tuple([row[spot] for spot in spots]) for row in rows]


def tally(places):
    """How often each place stands in a list."""
    many = {}
    for place in places:
        many[place] = many.get(place, 0) + 1
    return many


def broken_places(counts, least, most):
    """The places in order whose counts are less than least or more than most."""
    return tuple([
        place for place, many in counts.items()
        if many < least or (most is not None and many > most)
    ])


class Statement:
    """What Rule and Total have in common: what they tell of a database."""

    def __call__(self, database):
        """Whether a database keeps it."""
        raise NotImplementedError("Rule and Total tell this")

    def counts(self, database):
        """A dict from the places to the counts there, the places ascending."""
        raise NotImplementedError("Rule and Total tell this")

    def broken(self, database):
        """The places at which a database does not keep it, ascending, a tuple."""
        raise NotImplementedError("Rule and Total tell this")


class Rule(Statement):
    """Each row of a table has from least to most rows of another one that go with it."""

    def __init__(self, table, other, pairs, least, most, *, where=None, other_where=None):
        check_argument(is_word(table), "table")
        check_argument(is_word(other), "other")
        check_argument(are_pairs(pairs), "pairs")
        check_argument(is_least(least), "least")
        check_argument(is_most(most, least), "most")
        check_argument(is_where(where), "where")
        check_argument(is_where(other_where), "other_where")
        self._table = table
        self._other = other
        self._pairs = tuple([(first, second) for first, second in pairs])
        self._least = least
        self._most = most
        self._where = kept_where(where)
        self._other_where = kept_where(other_where)

    @property
    def table(self):
        return self._table

    @property
    def other(self):
        return self._other

    @property
    def pairs(self):
        return self._pairs

    @property
    def least(self):
        return self._least

    @property
    def most(self):
        return self._most

    @property
    def where(self):
        return dict(self._where)

    @property
    def other_where(self):
        return dict(self._other_where)

    @staticmethod
    def key(table, *columns):
        """No two rows of a table are alike in these columns."""
        return Rule(table, table, [(column, column) for column in columns], 0, 1)

    @staticmethod
    def reference(table, other, pairs, *, where=None):
        """Each row of a table has at least one of the other."""
        return Rule(table, other, pairs, 1, None, where=where)

    @staticmethod
    def at_most(table, other, pairs, most, *, where=None, other_where=None):
        """Each row of a table has at most so many of the other."""
        return Rule(table, other, pairs, 0, most, where=where, other_where=other_where)

    @staticmethod
    def exactly(table, other, pairs, least, *, where=None, other_where=None):
        """Each row of a table has just so many of the other."""
        return Rule(table, other, pairs, least, least, where=where, other_where=other_where)

    @staticmethod
    def none(table, other, pairs, *, where=None, other_where=None):
        """No row of a table has any of the other."""
        return Rule(table, other, pairs, 0, 0, where=where, other_where=other_where)

    def is_of(self, schema):
        """Whether it is a statement of a schema."""
        if self._table not in schema or self._other not in schema:
            return False
        table, other = schema[self._table], schema[self._other]
        if not are_joined(table, other, self._pairs):
            return False
        return is_where_of(table, self._where) and is_where_of(other, self._other_where)

    def counts(self, database):
        """A dict from the places to the counts there, the places ascending."""
        check_is_of(self, database.schema)
        places = entries(database, self._table, firsts_of(self._pairs), self._where)
        many = tally(entries(database, self._other, seconds_of(self._pairs), self._other_where))
        return {place: many.get(place, 0) for place in sorted(set(places))}

    def broken(self, database):
        """The places at which a database does not keep it, ascending, a tuple."""
        return broken_places(self.counts(database), self._least, self._most)

    def __call__(self, database):
        """Whether a database keeps it."""
        return not self.broken(database)

    def __eq__(self, other):
        return isinstance(other, Rule) and self._told() == other._told()

    def _told(self):
        return (
            self._table, self._other, self._pairs, self._least, self._most,
            self._where, self._other_where,
        )


class Total(Statement):
    """A table has from least to most rows."""

    def __init__(self, table, least, most, *, where=None):
        check_argument(is_word(table), "table")
        check_argument(is_least(least), "least")
        check_argument(is_most(most, least), "most")
        check_argument(is_where(where), "where")
        self._table = table
        self._least = least
        self._most = most
        self._where = kept_where(where)

    @property
    def table(self):
        return self._table

    @property
    def least(self):
        return self._least

    @property
    def most(self):
        return self._most

    @property
    def where(self):
        return dict(self._where)

    def is_of(self, schema):
        """Whether it is a statement of a schema."""
        return self._table in schema and is_where_of(schema[self._table], self._where)

    def counts(self, database):
        """A dict from the one place () to the count there."""
        check_is_of(self, database.schema)
        return {(): database.count(self._table, self._where)}

    def broken(self, database):
        """The places at which a database does not keep it: () or none, a tuple."""
        return broken_places(self.counts(database), self._least, self._most)

    def __call__(self, database):
        """Whether a database keeps it."""
        return not self.broken(database)

    def __eq__(self, other):
        return isinstance(other, Total) and self._told() == other._told()

    def _told(self):
        return self._table, self._least, self._most, self._where
