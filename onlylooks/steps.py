"""States from which searches go on, and what is known of them whatever the bounds are."""

from onlylooks.shapes import shape
from onlylooks.states import count_in, counts, first_state, has_gone_row, roles_of, sites, tally, ways

# So many are kept for other searches: what is known takes room.
MOST_STEPS = 5000


class Way:
    """A state behind a way of a lack."""

    def __init__(self, state, told):
        self.state = state
        # The tuples (ask, how many rows count) where this may be more than ahead of the way.
        self.told = told
        # The state in its shape, as soon as a search goes on there.
        self.shaped = None


class Step:
    """A state, where Asks count and how many rows, and the Ways of what it lacks."""

    def __init__(self, problem, state):
        rows, chosen = state
        roles = roles_of(problem, rows)
        there = sites(problem, roles, chosen)
        self.state = state
        # How many rows count at a place, and the Asks that count by now, by their places.
        self.many = tally(roles)
        self.asks = {place: ask for ask, _, place in there}
        self.told = [(ask, at, self.many.get(place, 0)) for ask, at, place in there]
        self.ways = {}


def step_of(problem, state):
    """The Step of a state, the same one each time as long as it is kept."""
    step = problem.kept_steps.get(state)
    if step is None:
        step = Step(problem, state)
        if len(problem.kept_steps) >= problem.most_steps:
            problem.kept_steps.clear()
        problem.kept_steps[state] = step
    return step


def new_and_old(before, behind):
    """The rows behind a way that are not there before it, and those that are not there behind it."""
    many = len(before)
    if behind[:many] == before:
        return behind[many:], ()
    changed = [(one, other) for one, other in zip(before, behind) if one != other]
    return [*[other for _, other in changed], *behind[many:]], [one for one, _ in changed]


def new_sites(problem, state, roles):
    """The tuples (ask, place) of the Asks that count at new rows with these Roles, or at chosen rows."""
    rows, chosen = state
    found = [(ask, place) for role in roles for ask, place in role.homes if ask.slot is None]
    for ask in problem.choosing:
        if chosen[ask.slot] is not None:
            home = rows[chosen[ask.slot]]
            found.append((ask, (ask.number, *[home[first] for first, _ in ask.joins])))
    return found


def told_behind(problem, step, state):
    """The tuples (ask, how many rows count) where these may be more in a state behind a Step."""
    new, old = new_and_old(step.state[0], state[0])
    roles, many = roles_of(problem, new), step.many
    more = tally(roles)
    count_in(more, roles_of(problem, old), -1)
    there = [
        (step.asks[place], many.get(place, 0) + more[place]) for place in more
        if more[place] > 0 and place in step.asks
    ]
    for ask, place in new_sites(problem, state, roles):
        there.append((ask, many.get(place, 0) + more.get(place, 0)))
    return there


def ways_of(problem, step, ask, at):
    """The Ways of a lack, but for those to a row that is to be missing."""
    place = (ask.number, at)
    if place not in step.ways:
        step.ways[place] = [
            Way(state, told_behind(problem, step, state))
            for state in ways(problem, step.state, ask, at)
            if not has_gone_row(problem, state)
        ]
    return step.ways[place]


def first_ways(problem):
    """A list of the Way to the state at the beginning; [] if a row is there that is to be missing."""
    if problem.start is None:
        state = first_state(problem)
        is_gone = has_gone_row(problem, state)
        told = [(ask, many) for ask, _, many in counts(problem, state)]
        problem.start = [] if is_gone else [Way(state, told)]
    return problem.start


def shape_behind(problem, way):
    """The shape of the state behind a Way."""
    if way.shaped is None:
        way.shaped = shape(way.state, problem.twins)
    return way.shaped
