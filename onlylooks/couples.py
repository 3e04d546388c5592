"""Two changes, side by side or one after the other [74] to [76]."""

from onlylooks.changes import Change
from onlylooks.databases import check_equal
from onlylooks.demands import demands
from onlylooks.errors import InvalidPair
from onlylooks.fields import check_size, databases_by_answer, fact_of, facts_of_change, holds_for
from onlylooks.looks import looks_of
from onlylooks.possible import database_with_fewer


def entries_of(change):
    """All entries of a change, put ones first."""
    return [*change.put_rows, *change.taken_rows]


def together(one, other):
    """The Change that does two changes that are apart."""
    check_equal(one.schema, other.schema)
    others = entries_of(other)
    if [entry for entry in entries_of(one) if entry in others]:
        raise InvalidPair()
    put, taken = [*one.put_rows, *other.put_rows], [*one.taken_rows, *other.taken_rows]
    return Change(one.schema, put, taken)


class Couple:
    """What the looks of two changes and of both together tell of the ready databases."""

    def __init__(self, rules, one, other):
        both = together(one, other)
        asked = [demands(rules, change) for change in (one, other, both)]
        self._rules = rules
        self._looks = looks_of([demand for those in asked for demand in those])
        check_size(rules, both, self._looks)
        self._facts = facts_of_change(both)
        self._databases = databases_by_answer(rules, self._facts, self._looks)
        self._kept = {
            answer: tuple([self._are_met(those, answer) for those in asked])
            for answer in self._databases
        }

    def _are_met(self, those, answer):
        return all([holds_for(demand, self._looks, answer) for demand in those])

    def answers(self, is_right):
        """The answers that are right by whether one, other and both would be kept."""
        return [answer for answer, kept in self._kept.items() if is_right(*kept)]

    def _facts_of(self, answer):
        return [*self._facts, *[fact_of(look, value) for look, value in zip(self._looks, answer)]]

    def fewest(self, is_right):
        """A ready database with the fewest rows that gives such an answer; None if there is none."""
        # Those that are known to need few rows come first: they bound the search for others.
        right = sorted(self.answers(is_right), key=lambda answer: len(self._databases[answer]))
        least = None
        for answer in right:
            if least is None:
                least = self._databases[answer].copied()
            fewer = database_with_fewer(self._rules, self._facts_of(answer), len(least))
            least = least if fewer is None else fewer
        return least


def are_spoilt(one, other, both):
    return one and other and not both


def is_helped(one, other, both):
    return both and not other


def need_an_order(one, other, both):
    return both and not (one and other)


def spoils(rules, one, other):
    """A ready database with the fewest rows in which each change would be kept, but both not; or None."""
    return Couple(rules, one, other).fewest(are_spoilt)


def helps(rules, one, other):
    """A ready database with the fewest rows in which both would be kept, but the second one not; or None."""
    return Couple(rules, one, other).fewest(is_helped)


def in_any_order(rules, one, other):
    """Whether each of two changes alone is kept wherever both together are."""
    return not Couple(rules, one, other).answers(need_an_order)
