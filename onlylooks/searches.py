"""The search for a state that lacks nothing and is not closed, with the fewest rows or any [32]."""

from onlylooks.bounds import Lack, more_rows
from onlylooks.rooms import is_room_for
from onlylooks.states import is_passed, lacks_of
from onlylooks.steps import first_ways, shape_behind, step_of, ways_of


def lack_with_ways(problem, step, ask, at, missing):
    """The Lack with its ways, but for those that are known to lead to nothing."""
    rows, _ = step.state
    found = [way for way in ways_of(problem, step, ask, at) if not is_passed(way.told)]
    new = [way.state[0][-1] for way in found if len(way.state[0]) > len(rows)]
    # Ways without a new row may spare some.
    many = missing - (len(found) - len(new))
    if many > 1 and not is_room_for(problem, step.state, many, new):
        found = []
    return Lack(ask, at, many, found)


def lacks_with_ways(problem, state):
    """The Lacks of a state; one alone if it has no way on."""
    step, found = step_of(problem, state), []
    for ask, at, missing in lacks_of(problem, state, step.told):
        found.append(lack_with_ways(problem, step, ask, at, missing))
        if not found[-1].ways:
            return found[-1:]
    return found


class Search:
    """The states that wait to be looked at, in piles by how many rows they come to at least."""

    def __init__(self, problem, is_for_fewest, bound=None):
        self._problem = problem
        # An end with so many rows or more is of no use.
        self._bound = bound
        # Otherwise there is one pile alone: the search goes straight to an end.
        self._is_for_fewest = is_for_fewest
        self._piles = {}
        self._seen = {}

    def _wait(self, state, lacking, rows):
        """Has a state wait, on the pile for so many rows."""
        if self._bound is not None and rows >= self._bound:
            return
        pile = rows if self._is_for_fewest else 0
        self._piles.setdefault(pile, []).append((state, lacking))

    def _next(self):
        """The tuple (state, lacking, rows) of the state that comes to the fewest rows."""
        rows = min(list(self._piles))
        # The state that was met last is the nearest to an end.
        state, lacking = self._piles[rows].pop()
        if not self._piles[rows]:
            del self._piles[rows]
        return state, lacking, rows

    def _meet(self, way, rows):
        """Has the state behind a way wait that comes to so many rows at least, if none like it was met before."""
        state = shape_behind(self._problem, way)
        if state not in self._seen:
            self._seen[state] = True
            self._wait(state, None, max([rows, len(state[0])]))

    def _go_on(self, state, lacking, rows):
        """Goes on to the states behind the ways of the lack that has the fewest."""
        ways = min([lack.ways for lack in lacking], key=len)
        if ways and self._is_for_fewest:
            need = len(state[0]) + more_rows(lacking, state[0])
            if need > rows:
                self._wait(state, lacking, need)
                return
        for way in ways:
            self._meet(way, rows)

    def end(self):
        """A state that lacks nothing and is not closed; None if there is none."""
        for way in first_ways(self._problem):
            if not is_passed(way.told):
                self._meet(way, 0)
        while self._piles:
            state, lacking, rows = self._next()
            if lacking is None:
                lacking = lacks_with_ways(self._problem, state)
            if not lacking:
                return state
            self._go_on(state, lacking, rows)
        return None
