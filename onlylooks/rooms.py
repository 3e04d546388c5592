"""How many new rows the bounds from above let come in together [32]."""

from onlylooks.states import asked_of, count, counting, fits, is_open, spots


def rooms_there(ask, state, new):
    """The tuples (room, rows) of an Ask where it counts by now: so many of these new rows may come in."""
    rows, _ = state
    return [
        (ask.high - count(ask, rows, at), counting(ask, new, asked_of(ask, rows, at)))
        for at in spots(ask, state)
    ]


def places_of_new(ask, new):
    """A dict from what is asked for at new rows to those of them that count where they stand."""
    places = {}
    for row in new:
        if ask.slot is None and ask.home == row[0] and fits(row, ask.home_checks):
            asked = asked_of(ask, [row], 0)
            # Open names of new rows are unlike one another, though they are written alike.
            are_words = not [entry for _, entry in asked if is_open(entry)]
            if are_words and counting(ask, [row], asked):
                places.setdefault(asked, []).append(row)
    return places


def rooms_of(ask, state, new):
    """The tuples (room, rows) of an Ask: so many of these new rows may come in."""
    at_new = [
        (ask.high - len(counting(ask, state[0], asked)), those)
        for asked, those in places_of_new(ask, new).items()
    ]
    return [*rooms_there(ask, state, new), *at_new]


def most_to_come(problem, state, new):
    """How many new rows may come in at most, of the kinds that are told; None if no bound is known."""
    bounding = [ask for ask in problem.asks if ask.high is not None]
    rooms = [room for ask in bounding for room in rooms_of(ask, state, new)]
    left, most = new, 0
    # Each kind has a room among those that are taken: the smallest ones, the widest of these first.
    for room, those in sorted(rooms, key=lambda each: (each[0], -len(each[1]))):
        rest = [row for row in left if row not in those]
        if len(rest) < len(left):
            left, most = rest, most + room
    return most if not left else None


def is_room_for(problem, state, many, new):
    """Whether so many new rows may come in, of the kinds that are told, for all that is known."""
    most = most_to_come(problem, state, new)
    return most is None or many <= most
