"""Two changes, side by side or one after the other [74] to [76]."""

from onlylooks.answers import Answers
from onlylooks.changes import Change
from onlylooks.databases import check_equal
from onlylooks.demands import demands
from onlylooks.errors import InvalidPair
from onlylooks.fields import Teller, check_size, facts_of_change
from onlylooks.looks import looks_of
from onlylooks.possible import database_of


def entries_of(change):
    """All entries of a change, put ones first."""
    return [*change.put_rows, *change.taken_rows]


def together(one, other):
    """The Change that does two changes that are apart."""
    check_equal(one.schema, other.schema)
    others = entries_of(other)
    if [entry for entry in entries_of(one) if entry in others]:
        raise InvalidPair()
    put, taken = [*one.put_rows, *other.put_rows], [*one.taken_rows, *other.taken_rows]
    return Change(one.schema, put, taken)


class Couple:
    """What the looks of two changes and of both together tell of the ready databases."""

    def __init__(self, rules, one, other):
        both = together(one, other)
        asked = [demands(rules, change) for change in (one, other, both)]
        told = looks_of([demand for those in asked for demand in those])
        check_size(rules, both, told)
        self._schema = rules.schema
        self._answers = Answers(rules, facts_of_change(both), told)
        self._rows = self._answers.rows_by_answer()
        tellers = [[Teller(demand, told) for demand in those] for those in asked]
        self._kept = {
            answer: tuple([all([each.holds(answer) for each in those]) for those in tellers])
            for answer in self._rows
        }

    def answers(self, is_right):
        """The answers that are right by whether one, other and both would be kept."""
        return [answer for answer, kept in self._kept.items() if is_right(*kept)]

    def fewest(self, is_right):
        """A ready database with the fewest rows that gives such an answer; None if there is none."""
        # Those that are known to need few rows come first: they bound the search for others.
        right = sorted(self.answers(is_right), key=lambda answer: len(self._rows[answer]))
        least = None
        for answer in right:
            if least is None:
                least = self._rows[answer]
            fewer = self._answers.fewer_rows(answer, len(least))
            least = least if fewer is None else fewer
        if least is None:
            return None
        return database_of(self._schema, self._answers.told_words(), least)


def are_spoilt(one, other, both):
    return one and other and not both


def is_helped(one, other, both):
    return both and not other


def need_an_order(one, other, both):
    return both and not (one and other)


def spoils(rules, one, other):
    """A ready database with the fewest rows in which each change would be kept, but both not; or None."""
    return Couple(rules, one, other).fewest(are_spoilt)


def helps(rules, one, other):
    """A ready database with the fewest rows in which both would be kept, but the second one not; or None."""
    return Couple(rules, one, other).fewest(is_helped)


def in_any_order(rules, one, other):
    """Whether each of two changes alone is kept wherever both together are."""
    return not Couple(rules, one, other).answers(need_an_order)
