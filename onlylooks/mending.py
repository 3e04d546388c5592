"""Rows that have to be put beside a change, and rows that have to go with others [78], [79]."""

from onlylooks.databases import check_equal
from onlylooks.demands import words_at
from onlylooks.errors import Unfit
from onlylooks.facts import Missing, Present
from onlylooks.possible import database_with_fewer
from onlylooks.rules import check_kept
from onlylooks.statements import Rule, Total, firsts_of
from onlylooks.tables import row_fits

MOST_ROWS = 3


def entries_in(database):
    """The tuples (table, row) of all rows of a database, ascending."""
    return sorted([(name, row) for name in database.schema.names for row in database[name]])


def mended(rules, database, change):
    """The fewest rows to be put beside a change so that all rules hold; None if three are too few."""
    check_equal(rules.schema, change.schema)
    check_kept(rules, database)
    changed = change.on(database)
    there = [Present(name, row) for name, row in entries_in(changed)]
    gone = [Missing(name, row) for name, row in change.taken_rows]
    found = database_with_fewer(rules, [*there, *gone], len(changed) + MOST_ROWS + 1)
    return None if found is None else tuple(entries_in(found - changed))


def check_rows_there(database, values):
    """Raises Unfit for the first of any values that is no row of a database, or stands ahead of it."""
    there = entries_in(database)
    for index, value in enumerate(values):
        if value not in there or value in values[:index]:
            raise Unfit(index)


def rows_at(database, rule, place):
    """The tuples (table, row) of the rows of the table of a Rule that belong to a place."""
    table, where = database.schema[rule.table], rule.where
    words = words_at(firsts_of(rule.pairs), place)
    return [
        (table.name, row) for row in database[table.name]
        if row_fits(table, row, where) and row_fits(table, row, words)
    ]


def rows_with_too_few(database, statement):
    """The tuples (table, row) of the rows for which a statement asks for more rows than there are."""
    if not isinstance(statement, Rule):
        return []
    short = [place for place, many in statement.counts(database).items() if many < statement.least]
    return [entry for place in short for entry in rows_at(database, statement, place)]


def must_go(rules, database, rows):
    """All rows that have to go with others that are taken; None if a Total would be broken."""
    check_kept(rules, database)
    check_rows_there(database, rows)
    left, going = database.copied(), list(rows)
    while going:
        for name, row in going:
            left.take(name, row)
        going = [entry for each in rules.statements for entry in rows_with_too_few(left, each)]
    totals = [each for each in rules.statements if isinstance(each, Total)]
    if [total for total in totals if left.count(total.table, total.where) < total.least]:
        return None
    return tuple([entry for entry in entries_in(database - left) if entry not in rows])
