"""What has to hold ahead of a change, so that all rules hold behind it [42] to [45]."""

from onlylooks.databases import check_equal, matching
from onlylooks.statements import Total, firsts_of, seconds_of
from onlylooks.tables import row_fits


def words_at(columns, at):
    """The dict from columns to the words of a place."""
    return {column: word for column, word in zip(columns, at)}


def place_of(table, row, columns, where):
    """The entries of a row in some columns, if it fits where; None if it does not."""
    if not row_fits(table, row, where):
        return None
    return tuple([row[table.columns.index(column)] for column in columns])


def places_of(statement, schema, name, row):
    """The places at which a row of a table counts for a, and for b; None where it does not count."""
    table, here, there = schema[name], None, None
    if isinstance(statement, Total):
        if name == statement.table:
            there = place_of(table, row, (), statement.where)
        return here, there
    if name == statement.table:
        here = place_of(table, row, firsts_of(statement.pairs), statement.where)
    if name == statement.other:
        there = place_of(table, row, seconds_of(statement.pairs), statement.other_where)
    return here, there


def shifts_of(statement, change):
    """A dict from the places at which entries count, as they first do, to (shift, other shift)."""
    entries = [
        *[(name, row, 1) for name, row in change.put_rows],
        *[(name, row, -1) for name, row in change.taken_rows],
    ]
    shifts = {}
    for name, row, by in entries:
        here, there = places_of(statement, change.schema, name, row)
        if here is not None:
            shift, other_shift = shifts.get(here, (0, 0))
            shifts[here] = (shift + by, other_shift)
        if there is not None:
            shift, other_shift = shifts.get(there, (0, 0))
            shifts[there] = (shift, other_shift + by)
    return shifts


def demands(rules, change):
    """The Demands of a change: one for each place of a statement that it shifts, a tuple."""
    check_equal(rules.schema, change.schema)
    return tuple([
        Demand(change.schema, index, statement, at, shift, other_shift)
        for index, statement in enumerate(rules.statements)
        for at, (shift, other_shift) in shifts_of(statement, change).items()
        if shift != 0 or other_shift != 0
    ])


def is_met(demand, many, other_many):
    """Whether a demand holds where a and b [42] are so many."""
    statement, behind = demand.statement, other_many + demand.other_shift
    if many + demand.shift == 0:
        return True
    return statement.least <= behind and (statement.most is None or behind <= statement.most)


class Demand:
    """What has to hold at one place of a statement, told of the database ahead of a change."""

    def __init__(self, schema, rule_index, statement, at, shift, other_shift):
        self._schema = schema
        self._rule_index = rule_index
        self._statement = statement
        self._at = at
        self._shift = shift
        self._other_shift = other_shift

    @property
    def schema(self):
        return self._schema

    @property
    def rule_index(self):
        """The index of its statement in the rules."""
        return self._rule_index

    @property
    def statement(self):
        return self._statement

    @property
    def at(self):
        """The place, a tuple of words."""
        return self._at

    @property
    def shift(self):
        return self._shift

    @property
    def other_shift(self):
        return self._other_shift

    def __call__(self, database):
        """Whether it holds in the database ahead of the change."""
        check_equal(self._schema, database.schema)
        told = self._statement
        if isinstance(told, Total):
            return is_met(self, 1, matching(database, told.table, {}, told.where))
        words = words_at(firsts_of(told.pairs), self._at)
        other_words = words_at(seconds_of(told.pairs), self._at)
        return is_met(
            self,
            matching(database, told.table, words, told.where),
            matching(database, told.other, other_words, told.other_where),
        )

    def __eq__(self, other):
        return isinstance(other, Demand) and self._told() == other._told()

    def _told(self):
        return (
            self._schema, self._rule_index, self._statement, self._at,
            self._shift, self._other_shift,
        )
