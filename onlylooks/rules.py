"""Rules: the statements about the databases of a schema, together [22]."""

from onlylooks.databases import check_equal
from onlylooks.errors import Broken, Circle, Misfit, TooMany
from onlylooks.limits import MAX_STATEMENTS
from onlylooks.statements import Rule, is_statement


def check_statements(schema, values):
    """Raises Misfit or TooMany if any values are not the statements of rules of a schema."""
    for index, value in enumerate(values):
        if not is_statement(value, schema):
            raise Misfit(index)
    if len(values) > MAX_STATEMENTS:
        raise TooMany(MAX_STATEMENTS)


def steps_of(statements):
    """The tuples (table, other) for all Rules that ask a row for others."""
    rules = [each for each in statements if isinstance(each, Rule)]
    return [(rule.table, rule.other) for rule in rules if rule.least >= 1]


def leads_back(name, steps):
    """Whether one step or several ones lead from a table back to it."""
    reached = [other for table, other in steps if table == name]
    # A way round that takes each step once at most is found behind so many rounds.
    for _ in steps:
        reached = [other for table, other in steps if table == name or table in reached]
    return name in reached


def check_circles(schema, statements):
    """Raises Circle for the first table of a schema from which Rules lead back to it."""
    steps = steps_of(statements)
    for name in schema.names:
        if leads_back(name, steps):
            raise Circle(name)


def check_kept(rules, database):
    """Raises Broken for the first broken place of a database."""
    broken = rules.broken(database)
    if broken:
        index, place = broken[0]
        raise Broken(index, place)


class Rules:
    """At most five statements of a schema, without a circle."""

    def __init__(self, schema, *statements):
        check_statements(schema, statements)
        check_circles(schema, statements)
        self._schema = schema
        self._statements = statements

    @property
    def schema(self):
        return self._schema

    @property
    def statements(self):
        return self._statements

    def keeps(self, database):
        """Whether a database keeps all statements."""
        return not self.broken(database)

    def broken(self, database):
        """The tuples (index of the statement, place) of all broken places, ascending."""
        check_equal(self._schema, database.schema)
        return tuple([
            (index, place)
            for index, statement in enumerate(self._statements)
            for place in statement.broken(database)
        ])

    def __add__(self, other):
        if not isinstance(other, Rules):
            return NotImplemented
        check_equal(self._schema, other._schema)
        statements = [*self._statements, *other._statements]
        return Rules(self._schema, *statements)

    def __len__(self):
        return len(self._statements)

    def __eq__(self, other):
        if not isinstance(other, Rules):
            return False
        return self._schema == other._schema and self._statements == other._statements
