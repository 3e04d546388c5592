"""Papers that show step by step that nothing is possible [33]."""

from onlylooks.asks import Problem
from onlylooks.errors import TooMany
from onlylooks.limits import MAX_PAPER
from onlylooks.possible import any_database, check_wanted
from onlylooks.shapes import names_in_order
from onlylooks.states import closings, first_state, is_closed, lacks, renamed, ways
from onlylooks.values import is_integer


def numbered(state):
    """The state with its open names numbered as they first stand in it."""
    rows, chosen = state
    return renamed(rows, names_in_order(rows, {})), chosen


def shortest_lack(problem, state):
    """The tuple (number, at, states behind its ways) of the lack with the fewest that are not closed."""
    lacking = [(ask.number, at, ways(problem, state, ask, at)) for ask, at, _ in lacks(problem, state)]
    if len(lacking) == 1:
        return lacking[0]
    many = [
        (len([each for each in states if not is_closed(problem, each)]), len(states))
        for _, _, states in lacking
    ]
    return lacking[many.index(min(many))]


def paper_for(problem, state, papers):
    """A paper for a state; papers has those that were told for states before."""
    state = numbered(state)
    if state not in papers:
        closed = closings(problem, state)
        if closed:
            number, at = closed[0]
            papers[state] = ("closed", number, at)
        else:
            number, at, states = shortest_lack(problem, state)
            told = [paper_for(problem, each, papers) for each in states]
            papers[state] = ("lack", number, at, tuple(told))
    return papers[state]


def paper(rules, *facts):
    """A paper that shows that no database keeps rules and has facts; None if there is one."""
    if check_wanted(rules, facts) > MAX_PAPER:
        raise TooMany(MAX_PAPER)
    if any_database(rules, facts) is not None:
        return None
    problem = Problem(rules, facts)
    return paper_for(problem, first_state(problem), {})


def is_place(number, at):
    """Whether any values are a number and the number of a row or None."""
    return is_integer(number) and (at is None or is_integer(at))


def is_closing(problem, state, value):
    """Whether any tuple shows that a state is closed."""
    if len(value) != 3 or not is_place(value[1], value[2]):
        return False
    return (value[1], value[2]) in closings(problem, state)


def is_lacking(problem, state, value):
    """Whether any tuple shows that a lack of a state leads nowhere."""
    if len(value) != 4 or not is_place(value[1], value[2]) or not isinstance(value[3], tuple):
        return False
    for ask, at, _ in lacks(problem, state):
        if (ask.number, at) == (value[1], value[2]):
            return are_papers_for(problem, ways(problem, state, ask, at), value[3])
    return False


def are_papers_for(problem, states, values):
    """Whether any values are papers for states, one for each."""
    if len(states) != len(values):
        return False
    for state, value in zip(states, values):
        if not is_paper_for(problem, state, value):
            return False
    return True


def is_paper_for(problem, state, value):
    """Whether any value is a paper for a state."""
    if not isinstance(value, tuple) or len(value) == 0:
        return False
    if value[0] == "closed":
        return is_closing(problem, state, value)
    return value[0] == "lack" and is_lacking(problem, state, value)


def is_paper(rules, value, *facts):
    """Whether any value is a paper that shows that no database keeps rules and has facts."""
    check_wanted(rules, facts)
    problem = Problem(rules, facts)
    return is_paper_for(problem, first_state(problem), value)
