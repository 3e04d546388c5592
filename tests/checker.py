"""Papers by the words of the document alone [33], apart from how the program goes about them.

A state is a list of rows, each a list [table, entries], and a dict from the numbers of facts to
chosen rows. An open name is a list of its own: where it stands more than once it is the same one.
"""

from itertools import product

from onlylooks.facts import Counted, Long, Missing, Present, Short
from onlylooks.statements import Rule, Total


class Checker:
    def __init__(self, rules, facts):
        self.schema = rules.schema
        self.told = [*rules.statements, *facts]
        self.first = []
        for fact in facts:
            if isinstance(fact, Present) and [fact.table, list(fact.row)] not in self.first:
                self.first.append([fact.table, list(fact.row)])

    def beginning(self):
        return [[name, list(entries)] for name, entries in self.first], {}

    def column(self, row, column):
        return row[1][self.schema[row[0]].columns.index(column)]

    def fits(self, row, words):
        return all(self.column(row, column) in ([asked] if isinstance(asked, str) else list(asked))
                   for column, asked in words.items())

    def same(self, one, other):
        return one is other if isinstance(one, list) or isinstance(other, list) else one == other

    def statement(self, number):
        told = self.told[number]
        return told.statement if isinstance(told, (Short, Long)) else told

    def counts(self, number, rows, at):
        """The numbers of the rows that count for a statement or a fact, at a row x."""
        told = self.statement(number)
        if isinstance(told, Counted):
            return [n for n, row in enumerate(rows) if row[0] == told.table and self.fits(row, told.words)]
        if isinstance(told, Total):
            return [n for n, row in enumerate(rows) if row[0] == told.table and self.fits(row, told.where)]
        return [n for n, row in enumerate(rows)
                if row[0] == told.other and self.fits(row, told.other_where)
                and all(self.same(self.column(row, second), self.column(rows[at], first)) for first, second in told.pairs)]

    def places(self, number, state):
        """Where something counts: None, the rows x, or the chosen row; 'unchosen' if there is none yet."""
        rows, chosen = state
        told, statement = self.told[number], self.statement(number)
        if not isinstance(statement, Rule):
            return [None]
        if isinstance(told, (Short, Long)):
            return [chosen[number]] if number in chosen else "unchosen"
        return [n for n, row in enumerate(rows) if row[0] == told.table and self.fits(row, told.where)]

    def closings(self, state):
        found, rows = set(), state[0]
        for number, told in enumerate(self.told):
            if isinstance(told, Missing):
                found |= {(number, n) for n, row in enumerate(rows) if row == [told.table, list(told.row)]}
            elif not isinstance(told, (Present, Long)):
                most = told.statement.least - 1 if isinstance(told, Short) else told.most
                places = self.places(number, state)
                if most is not None and places != "unchosen":
                    found |= {(number, at) for at in places if len(self.counts(number, rows, at)) > most}
        return found

    def lacks(self, state):
        found, rows = set(), state[0]
        for number, told in enumerate(self.told):
            if isinstance(told, (Present, Missing)):
                continue
            places = self.places(number, state)
            if places == "unchosen":
                found.add((number, None))
            elif not isinstance(told, Short):
                least = told.statement.most + 1 if isinstance(told, Long) else told.least
                found |= {(number, at) for at in places if len(self.counts(number, rows, at)) < least}
        return found

    def copied(self, state):
        """A copy in which open names are new lists, still one where they were one."""
        rows, chosen = state
        new = {}
        def entry(value):
            return new.setdefault(id(value), []) if isinstance(value, list) else value
        return [[name, [entry(value) for value in entries]] for name, entries in rows], dict(chosen)

    def equal_rows(self, rows):
        return any(one[0] == other[0] and all(map(self.same, one[1], other[1]))
                   for n, one in enumerate(rows) for other in rows[:n])

    def met(self, rows, one, other):
        """Makes two entries equal wherever they stand; False if they are unlike words."""
        if self.same(one, other):
            return True
        if not isinstance(one, list):
            one, other = other, one
        if not isinstance(one, list):
            return False
        for row in rows:
            row[1] = [other if value is one else value for value in row[1]]
        return True

    def asked(self, number, rows, at):
        """The tuples (column, entry) that a row has to have to count, but for what is to fit."""
        told = self.statement(number)
        if isinstance(told, Counted):
            return [(column, word) for column, word in told.words.items() if column not in self.schema[told.table].marks]
        return [(second, self.column(rows[at], first)) for first, second in told.pairs] if isinstance(told, Rule) else []

    def joined(self, number, state, at, n):
        """The state when the row with a number counts; None if that is no way."""
        new = self.copied(state)
        rows = new[0]
        told = self.statement(number)
        if rows[n][0] != (told.other if isinstance(told, Rule) else told.table):
            return None
        if n in self.counts(number, rows, at):
            return None
        for index in range(len(self.asked(number, rows, at))):
            column, entry = self.asked(number, rows, at)[index]
            if not self.met(rows, self.column(rows[n], column), entry):
                return None
        return new if n in self.counts(number, rows, at) and not self.equal_rows(rows) else None

    def with_new(self, state, name, words, asked):
        """The states with a new row of a table, for each choice of words that fits."""
        table, found = self.schema[name], []
        for choice in product(*[sorted(table.marks[column]) for column in table.columns if column in table.marks]):
            rows, chosen = self.copied(state)
            given = dict(zip([column for column in table.columns if column in table.marks], choice))
            entries = dict(asked(rows))
            if any(given.get(column, entry) != entry for column, entry in entries.items() if column in given):
                continue
            rows.append([name, [given[column] if column in given else entries.get(column, []) for column in table.columns]])
            if self.fits(rows[-1], {column: words[column] for column in words if column in table.marks}) and not self.equal_rows(rows):
                found.append((rows, chosen))
        return found

    def ways(self, state, number, at):
        rows, told = state[0], self.statement(number)
        if self.places(number, state) == "unchosen":
            found = []
            for n, row in enumerate(rows):
                if row[0] == told.table and self.fits(row, told.where):
                    found.append(self.copied(state))
                    found[-1][1][number] = n
            for new in self.with_new(state, told.table, told.where, lambda those: []):
                new[1][number] = len(new[0]) - 1
                found.append(new)
            return found
        found = [self.joined(number, state, at, n) for n in range(len(rows))]
        name, words = (told.other, told.other_where) if isinstance(told, Rule) else (
            told.table, told.words if isinstance(told, Counted) else told.where)
        new = self.with_new(state, name, words, lambda those: self.asked(number, those, at))
        return [each for each in found if each is not None] + new

    def is_paper(self, value, state=None):
        state = self.beginning() if state is None else state
        if value[0] == "closed":
            return (value[1], value[2]) in self.closings(state)
        if (value[1], value[2]) not in self.lacks(state):
            return False
        states = self.ways(state, value[1], value[2])
        return len(states) == len(value[3]) and all(map(self.is_paper, value[3], states))

    def any_paper(self, chance, state=None, left=None):
        """A paper that goes through any lacks; parts that would be too much are left wrong."""
        state = self.beginning() if state is None else state
        left = [200] if left is None else left
        left[0] -= 1
        closed, lacks = sorted(self.closings(state), key=str), sorted(self.lacks(state), key=str)
        if left[0] < 0 or not lacks or (closed and chance.random() < 0.7):
            return ("closed", *chance.choice(closed)) if closed else ("closed", 0, None)
        number, at = chance.choice(lacks)
        return ("lack", number, at, tuple(self.any_paper(chance, each, left) for each in self.ways(state, number, at)))
