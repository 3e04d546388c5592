"""Rules and facts, made ready for the states in which papers and searches go on [33]."""

from onlylooks.facts import Counted, Long, Missing, Present, Short
from onlylooks.statements import Rule
from onlylooks.tables import checks_of
from onlylooks.twins import twins_of


def flat(name, row):
    """A row as it stands in states: behind the name of its table."""
    return (name, *row)


def spot_of(table, column):
    """Where the entry of a column stands in a row of a state."""
    return table.columns.index(column) + 1


def checks_in(table, words):
    """The tuples (spot, words that fit there) for words that rows are to fit as they stand in states."""
    return tuple([(spot + 1, asked) for spot, asked in checks_of(table, words)])


def layout_of(table):
    """A tuple with the words of each column, ascending, or None for a name column."""
    marks = table.marks
    return tuple([
        tuple(sorted(marks[column])) if column in marks else None
        for column in table.columns
    ])


class Ask:
    """Bounds for how many rows count: of all rows, at each row of a home table, or at a chosen one."""

    def __init__(self, number, target, checks, low, high):
        self.number = number
        self.target = target
        self.checks = checks
        self.low = low
        self.high = high
        # For Rules: the table of the rows x, what these have to fit, what of them is asked for.
        self.home = None
        self.home_checks = ()
        self.joins = ()
        # For Short and Long of a Rule: where a state tells the chosen row.
        self.slot = None


def ask_of_statement(number, statement, schema, low, high):
    """The Ask for the count of a statement, with these bounds."""
    table = schema[statement.table]
    checks = checks_in(table, statement.where)
    if not isinstance(statement, Rule):
        return Ask(number, statement.table, checks, low, high)
    other = schema[statement.other]
    ask = Ask(number, statement.other, checks_in(other, statement.other_where), low, high)
    ask.home = statement.table
    ask.home_checks = checks
    ask.joins = tuple([
        (spot_of(table, first), spot_of(other, second)) for first, second in statement.pairs
    ])
    return ask


def ask_of_fact(number, fact, schema):
    """The Ask for a Counted, a Short or a Long."""
    if isinstance(fact, Counted):
        checks = checks_in(schema[fact.table], fact.words)
        return Ask(number, fact.table, checks, fact.least, fact.most)
    statement = fact.statement
    if isinstance(fact, Short):
        return ask_of_statement(number, statement, schema, 0, statement.least - 1)
    return ask_of_statement(number, statement, schema, statement.most + 1, None)


def give_slots(asks):
    """Gives each Ask for which a row is to be chosen its slot, in order; returns how many there are."""
    choosing = [ask for ask in asks if ask.home is not None]
    for slot, ask in enumerate(choosing):
        ask.slot = slot
    return len(choosing)


class Problem:
    """Rules and facts of their schema: what a search for a database has to look at."""

    def __init__(self, rules, facts):
        schema = rules.schema
        numbered = list(enumerate(facts, len(rules)))
        counting = [
            ask_of_fact(number, fact, schema) for number, fact in numbered
            if isinstance(fact, (Counted, Short, Long))
        ]
        self.slots = give_slots(counting)
        self.asks = [
            *[ask_of_statement(number, told, schema, told.least, told.most)
              for number, told in enumerate(rules.statements)],
            *counting,
        ]
        self.gone = [
            (number, flat(fact.table, fact.row)) for number, fact in numbered
            if isinstance(fact, Missing)
        ]
        present = [flat(fact.table, fact.row) for fact in facts if isinstance(fact, Present)]
        # A dict keeps each row once, in its order.
        self.first_rows = tuple({row: True for row in present})
        # The Asks that count all rows, and those for which a row is to be chosen.
        self.totals = [ask for ask in self.asks if ask.home is None]
        self.choosing = [ask for ask in self.asks if ask.slot is not None]
        self.layouts = {name: layout_of(schema[name]) for name in schema.names}
        self.twins = twins_of(self)
        # What searches found out of rows and states, whatever the bounds of Asks are.
        self.roles = {}
        self.start = None
        self.kept_steps = {}
        # A search does not come back to a state, so that one step is enough, unless others follow it.
        self.most_steps = 1
