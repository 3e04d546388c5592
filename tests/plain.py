"""A database of plain sets of tuples, for keepers whose looks and writes are not the program's."""

from onlylooks.keeper import Keeper
from onlylooks.rules import Rules
from tests.towns import town


class Plain:
    """Answers looks, is written to, and notes both."""

    def __init__(self, schema, **rows):
        self.schema = schema
        self.rows = {name: set(rows.get(name, ())) for name in schema.names}
        self.asked, self.written = [], []
        # What look returns instead, or an error that it raises, by the number of the look among all.
        self.instead = {}

    def look(self, question):
        self.asked.append(question)
        wrong = self.instead.get(len(self.asked) - 1, self)
        if isinstance(wrong, Exception):
            raise wrong
        return self.answer(question) if wrong is self else wrong

    def answer(self, question):
        columns = self.schema[question.table].columns
        fitting = 0
        for row in self.rows[question.table]:
            told = dict(zip(columns, row))
            if all(told[column] == word for column, word in question.words.items()):
                fitting += all(told[column] in words for column, words in question.where.items())
        return min(fitting, question.most)

    def write(self, change):
        self.written.append(change)
        for name, row in change.put_rows:
            assert row not in self.rows[name]
            self.rows[name].add(row)
        for name, row in change.taken_rows:
            self.rows[name].remove(row)

    def fresh(self):
        """Forgets what was asked and written."""
        self.asked, self.written, self.instead = [], [], {}


def kept(*statements, kind=Keeper, **rows):
    """A keeper and the plain rows behind it."""
    plain = Plain(town(), **rows)
    return kind(Rules(town(), *statements), plain.look, plain.write), plain
