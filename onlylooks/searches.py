"""The search for a state that lacks nothing and is not closed, with the fewest rows or any [32]."""

from onlylooks.bounds import more_rows
from onlylooks.shapes import shape
from onlylooks.states import first_state, is_closed, lacks, ways
from onlylooks.twins import twins_of


def open_ways(problem, state, ask, at):
    """The states to which the ways of a lack lead, without those that are closed."""
    return [each for each in ways(problem, state, ask, at) if not is_closed(problem, each)]


def fewest_ways(problem, state, lacking):
    """The states to which the lack with the fewest ways that are not closed leads."""
    fewest = None
    for ask, at, _ in lacking:
        found = open_ways(problem, state, ask, at)
        if fewest is None or len(found) < len(fewest):
            fewest = found
        if len(fewest) <= 1:
            return fewest
    return fewest


class Search:
    """The states that wait to be looked at, in piles by how many rows they come to at least."""

    def __init__(self, problem, is_for_fewest):
        self._problem = problem
        self._is_for_fewest = is_for_fewest
        self._twins = twins_of(problem)
        self._piles = {}
        self._seen = {}

    def wait(self, state, rows):
        """Has a state wait, if none like it was met before; it comes to so many rows at least."""
        state = shape(state, self._twins)
        if state not in self._seen:
            self._seen[state] = True
            lacking = lacks(self._problem, state)
            # On one pile alone, the search goes straight to an end, however many rows it has.
            if self._is_for_fewest:
                rows = max(rows, len(state[0]) + more_rows(state, lacking))
            self._piles.setdefault(rows, []).append((state, lacking))

    def end(self):
        """A state that lacks nothing and is not closed; None if there is none."""
        first = first_state(self._problem)
        if is_closed(self._problem, first):
            return None
        self.wait(first, 0)
        while self._piles:
            fewest = min(list(self._piles))
            pile = self._piles[fewest]
            # The state that was met last is the nearest to an end.
            state, lacking = pile.pop()
            if not pile:
                del self._piles[fewest]
            if not lacking:
                return state
            for each in fewest_ways(self._problem, state, lacking):
                self.wait(each, fewest)
        return None
