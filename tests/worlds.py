"""All databases of small schemas, in order of their rows, and small problems of all kinds."""

from itertools import combinations, product

from onlylooks.changes import Change
from onlylooks.databases import Database
from onlylooks.errors import Circle
from onlylooks.facts import Counted, Long, Missing, Present, Short
from onlylooks.rules import Rules
from onlylooks.statements import Rule, Total
from onlylooks.tables import Schema, Table


def all_rows(schema, names):
    """All tuples (table, row) with names in the name columns."""
    return [(name, row) for name in schema.names
            for row in product(*[schema[name].marks.get(column, names) for column in schema[name].columns])]


def with_rows(schema, rows):
    database = Database(schema)
    for name, row in rows:
        database.put(name, row)
    return database


def databases(schema, names, most=None):
    """All databases with these names, those with fewer rows first, up to most rows."""
    rows = all_rows(schema, names)
    for many in range((len(rows) if most is None else min(most, len(rows))) + 1):
        for some in combinations(rows, many):
            yield with_rows(schema, some)


def holds(database, rules, facts):
    return rules.keeps(database) and all(fact(database) for fact in facts)


def fewest(rules, facts, names, most=None):
    """The number of rows of the smallest database in which all holds; None if there is none."""
    for database in databases(rules.schema, names, most):
        if holds(database, rules, facts):
            return len(database)
    return None


class Maker:
    """Makes schemas, rules, facts and changes of all kinds, by a source of chances."""

    def __init__(self, source):
        self.source = source

    def schema(self, tables=2, columns=2, marks=2):
        chance, made = self.source, []
        for name in "tuv"[:chance.randint(1, tables)]:
            words = "abc"[:chance.randint(1, columns)]
            lists = [["p", "q"], ["q", "p", "r"]][:marks - 1]
            made.append(Table(name, *[
                word if chance.random() < 0.55 else (word, chance.choice(lists)) for word in words]))
        return Schema(*made)

    def where(self, table):
        chance = self.source
        return {column: chance.sample(marks, chance.randint(1, min(2, len(marks) - 1)))
                for column, marks in table.marks.items() if chance.random() < 0.4}

    def pairs(self, table, other):
        chance, made = self.source, []
        fit = [(one, two) for one in table.columns for two in other.columns
               if table.marks.get(one) == other.marks.get(two)]
        for _ in range(chance.choice([0, 1, 1, 1, 2])):
            pair = chance.choice(fit) if fit else None
            if pair and all(pair[0] != one and pair[1] != two for one, two in made):
                made.append(pair)
        return made

    def statement(self, schema):
        chance = self.source
        least = chance.choice([0, 0, 1, 1, 2])
        most = chance.choice([None, least, least, least + 1, 3])
        most = 1 if most is None and least == 0 else most
        table, other = schema[chance.choice(schema.names)], schema[chance.choice(schema.names)]
        if chance.random() < 0.25:
            return Total(table.name, least, most, where=self.where(table))
        return Rule(table.name, other.name, self.pairs(table, other), least, most,
                    where=self.where(table), other_where=self.where(other))

    def rules(self, schema, most=4):
        while True:
            try:
                many = self.source.randint(0, most)
                return Rules(schema, *[self.statement(schema) for _ in range(many)])
            except Circle:
                pass

    def row(self, table, names):
        return tuple(self.source.choice(table.marks.get(column, names)) for column in table.columns)

    def words(self, table, names):
        chance, made = self.source, {}
        for column in table.columns:
            marks = table.marks.get(column)
            if chance.random() < 0.4:
                made[column] = chance.choice(marks or names)
            elif marks and chance.random() < 0.3:
                made[column] = chance.sample(marks, chance.randint(1, len(marks)))
        return made

    def fact(self, schema, names):
        chance = self.source
        table = schema[chance.choice(schema.names)]
        kind = chance.choice([Present, Missing, Counted, Counted, Counted, Short, Long])
        if kind in (Present, Missing):
            return kind(table.name, self.row(table, names))
        statement = self.statement(schema)
        if kind is Short and statement.least > 0:
            return Short(statement)
        if kind is Long and statement.most is not None:
            return Long(statement)
        least = chance.choice([0, 1, 1, 2, 3])
        return Counted(table.name, self.words(table, names), least, chance.choice([None, least, least + 1]))

    def change(self, schema, names):
        chance, entries = self.source, []
        for _ in range(chance.randint(1, 3)):
            table = schema[chance.choice(schema.names)]
            entry = (table.name, self.row(table, names))
            if entry not in entries:
                entries.append(entry)
        put = chance.randint(0, len(entries))
        return Change(schema, entries[:put], entries[put:])
