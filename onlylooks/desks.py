"""A desk: a house that is told lines [92]."""

from onlylooks.changes import Change
from onlylooks.errors import NoLine, Refused
from onlylooks.keeper import CountingHouse
from onlylooks.plans import depth
from onlylooks.values import is_word


def check_line(is_right):
    """Raises NoLine for what is no line."""
    if not is_right:
        raise NoLine()


def check_words(words):
    """Raises NoLine if any texts are not all words."""
    check_line(all([is_word(word) for word in words]))


def entry_of(piece):
    """The tuple (put or take, (table, row)) that a piece of a change tells."""
    words = piece.split(" ")
    check_line(len(words) >= 3 and words[0] in ("put", "take"))
    check_words(words)
    verb, name, *row = words
    return verb, (name, tuple(row))


def change_of(schema, text):
    """The Change that is told by a text."""
    entries = [entry_of(piece) for piece in text.split(" / ")]
    put = [entry for verb, entry in entries if verb == "put"]
    return Change(schema, put, [entry for verb, entry in entries if verb == "take"])


def asked_words(texts):
    """The dict from columns to lists of words that texts tell."""
    words = {}
    for text in texts:
        column, _, marks = text.partition(":")
        check_line(column not in words)
        check_words([column, *marks.split("|")])
        words[column] = marks.split("|")
    return words


class Desk(CountingHouse):
    """A CountingHouse that does what lines say."""

    def __init__(self, rules, database):
        super().__init__(rules, database)

    def say(self, line):
        """Does what a line says; returns a text."""
        check_line(isinstance(line, str))
        if line == "undo":
            self.undo()
            return "ok"
        if line == "total":
            return f"{self.total}"
        verb, _, text = line.partition(" ")
        if verb in ("do", "ask", "depth"):
            return self._say_of_change(verb, change_of(self.rules.schema, text))
        check_line(verb in ("count", "rows"))
        return self._say_of_table(verb, text.split(" "))

    def _say_of_change(self, verb, change):
        """What do, ask or depth tells of a change."""
        if verb == "depth":
            return f"{depth(self._plan_of(change))}"
        told = self._done(change) if verb == "do" else self(change)
        return f"{told} {len(self.looked)}"

    def _done(self, change):
        """Does a change; done or refused."""
        try:
            self.do(change)
        except Refused:
            return "refused"
        return "done"

    def _say_of_table(self, verb, words):
        """What count or rows tells of a table."""
        name = words[0]
        check_words([name])
        asked = asked_words(words[1:])
        if verb == "count":
            return f"{self._own.count(name, asked)}"
        check_line(len(words) == 1)
        return "\n".join([" ".join(row) for row in self._own[name]])
