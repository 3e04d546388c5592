"""How many new rows the bounds from above let come in together [32]."""

from onlylooks.states import is_open, roles_of
from onlylooks.steps import step_of


def own_places(role):
    """The tuples (ask, place) of the Asks that count a row where it stands itself."""
    # Open names of new rows are unlike one another, though they are written alike.
    return [
        (ask, place) for ask, place in role.homes
        if ask.slot is None and place in role.places and not [each for each in place[1:] if is_open(each)]
    ]


def by_place(told):
    """The tuples (ask, place, rows) for tuples (ask, place, row), each place once."""
    found = {}
    for ask, place, row in told:
        found.setdefault(place, (ask, place, []))[2].append(row)
    return list(found.values())


def rooms_of(problem, step, new):
    """The tuples (room, rows) where a bound is known: so many of these new rows may come in."""
    roles = list(zip(new, roles_of(problem, new)))
    there = [
        (step.asks[place], place, row)
        for row, role in roles for place in role.places if place in step.asks
    ]
    at_new = [(ask, place, row) for row, role in roles for ask, place in own_places(role)]
    return [
        (ask.high - step.many.get(place, 0), those)
        for ask, place, those in [*by_place(there), *by_place(at_new)]
        if ask.high is not None
    ]


def most_to_come(problem, state, new):
    """How many new rows may come in at most, of the kinds that are told; None if no bound is known."""
    left, most = new, 0
    # Each kind has a room among those that are taken: the smallest ones, the widest of these first.
    rooms = rooms_of(problem, step_of(problem, state), new)
    for room, those in sorted(rooms, key=lambda each: (each[0], -len(each[1]))):
        rest = [row for row in left if row not in those]
        if len(rest) < len(left):
            left, most = rest, most + room
    return most if not left else None


def is_room_for(problem, state, many, new):
    """Whether so many new rows may come in, of the kinds that are told, for all that is known."""
    most = most_to_come(problem, state, new)
    return most is None or many <= most
