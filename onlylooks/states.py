"""States [33]: rows with words and open names, what they lack, what closes them, and the ways on.

A state is a tuple (rows, chosen). A row is a tuple: the name of its table, and its entries behind
it. chosen has the number of the chosen row for each slot, or None.
"""

from onlylooks.tables import fits


def is_open(entry):
    """Whether an entry is an open name: these begin with a digit, words with a letter."""
    return entry < "a"


def first_state(problem):
    """The state at the beginning."""
    return problem.first_rows, (None,) * problem.slots


def asked_of(ask, rows, at):
    """The tuples (spot, entry) that rows have to have to count at a row; () for a count of all."""
    if at is None:
        return ()
    home = rows[at]
    return tuple([(second, home[first]) for first, second in ask.joins])


class Role:
    """What a row is to Asks, in whichever state it stands."""

    def __init__(self, asks, row):
        # The places at which it counts: the number of an Ask, and the entries that this asks for.
        self.places = [
            (ask.number, *[row[second] for _, second in ask.joins]) for ask in asks
            if ask.target == row[0] and fits(row, ask.checks)
        ]
        # For the Asks that count at it, or may choose it, the tuples (ask, place).
        self.homes = [
            (ask, (ask.number, *[row[first] for first, _ in ask.joins])) for ask in asks
            if ask.home == row[0] and fits(row, ask.home_checks)
        ]


def roles_of(problem, rows):
    """The Roles of rows, in their order."""
    known = problem.roles
    for row in rows:
        if row not in known:
            known[row] = Role(problem.asks, row)
    return [known[row] for row in rows]


def count_in(many, roles, by):
    """Counts rows with these Roles at their places, in a dict from places to how many rows count there."""
    for role in roles:
        for place in role.places:
            many[place] = many.get(place, 0) + by


def tally(roles):
    """A dict from places to how many rows with these Roles count there; what is not in it is 0."""
    many = {}
    count_in(many, roles, 1)
    return many


def sites(problem, roles, chosen):
    """The tuples (ask, at, place) where Asks count by now, at None for a count of all rows."""
    found = [(ask, None, (ask.number,)) for ask in problem.totals]
    for at, role in enumerate(roles):
        for ask, place in role.homes:
            if ask.slot is None or chosen[ask.slot] == at:
                found.append((ask, at, place))
    return found


def in_order(found):
    """Tuples (ask, at, ..) by the numbers of Asks and of rows."""
    return sorted(found, key=lambda each: (each[0].number, each[1]))


def counts(problem, state):
    """The tuples (ask, at, how many rows count there) for all places where Asks count by now."""
    rows, chosen = state
    roles = roles_of(problem, rows)
    many = tally(roles)
    return [(ask, at, many.get(place, 0)) for ask, at, place in sites(problem, roles, chosen)]


def is_passed(told):
    """Whether one of some counts is more than the bound from above lets, told by tuples (ask, count)."""
    for ask, many in told:
        if ask.high is not None and many > ask.high:
            return True
    return False


def has_gone_row(problem, state):
    """Whether a row is there that is to be missing."""
    for _, row in problem.gone:
        if row in state[0]:
            return True
    return False


def is_closed(problem, state):
    """Whether more rows count somewhere than a bound from above lets, or a missing row is there."""
    told = [(ask, many) for ask, _, many in counts(problem, state)]
    return has_gone_row(problem, state) or is_passed(told)


def closings(problem, state):
    """The tuples (number, at) by which a state is closed."""
    passed = [
        (ask.number, at) for ask, at, many in in_order(counts(problem, state))
        if is_passed([(ask, many)])
    ]
    back = [
        (number, at) for number, gone in problem.gone
        for at, row in enumerate(state[0]) if row == gone
    ]
    return [*passed, *back]


def is_unchosen(ask, state):
    """Whether a row is still to be chosen for an Ask."""
    return ask.slot is not None and state[1][ask.slot] is None


def lacks_of(problem, state, told):
    """The tuples (ask, at, how many rows are missing) of what a state with these counts lacks."""
    missing = [(ask, at, ask.low - many) for ask, at, many in told if many < ask.low]
    choosing = [(ask, None, 1) for ask in problem.choosing if state[1][ask.slot] is None]
    return in_order([*missing, *choosing])


def lacks(problem, state):
    """The tuples (ask, at, how many rows are missing) of what a state lacks."""
    return lacks_of(problem, state, counts(problem, state))


def joined(pairs):
    """What open names become when the entries of each pair are made equal; None if words stop it."""
    becomes = {}
    for one, other in pairs:
        one, other = becomes.get(one, one), becomes.get(other, other)
        if one != other:
            if not is_open(one):
                one, other = other, one
            if not is_open(one):
                return None
            becomes = {name: other if became == one else became for name, became in becomes.items()}
            becomes[one] = other
    return becomes


def renamed(rows, becomes):
    """The rows with other entries; None if two of them would be equal."""
    new = tuple([tuple([becomes.get(entry, entry) for entry in row]) for row in rows])
    return new if len(set(new)) == len(new) else None


def pairs_to_count(row, checks, asked):
    """The pairs of entries to be made equal so that a row counts; None if its words stop it."""
    pairs = [(row[spot], entry) for spot, entry in asked]
    for spot, words in checks:
        if row[spot] not in words:
            if not is_open(row[spot]):
                return None
            pairs.append((row[spot], words[0]))
    return pairs


def rows_by_joining(ask, rows, at):
    """The rows behind each way that makes a row count that is there."""
    asked = asked_of(ask, rows, at)
    found = []
    for row in [row for row in rows if row[0] == ask.target]:
        pairs = pairs_to_count(row, ask.checks, asked)
        if pairs is not None:
            becomes = joined(pairs)
            # A row that counts already has nothing to be made equal.
            if becomes:
                new = renamed(rows, becomes)
                if new is not None:
                    found.append(new)
    return found


def choices(lists):
    """All tuples with one entry of each list, in order."""
    made = [()]
    for each in lists:
        made = [(*begun, entry) for begun in made for entry in each]
    return made


def entries_at(spot, marks, number, checks, asked):
    """The entries that a new row may have at a spot."""
    allowed = [words for at, words in checks if at == spot]
    told = [entry for at, entry in asked if at == spot]
    if marks is None:
        known = [*told, *[words[0] for words in allowed]]
        return [known[0] if known else f"{number}.{spot}"]
    return [
        word for word in marks
        if all([word in words for words in allowed]) and all([word == entry for entry in told])
    ]


def new_rows(layouts, name, number, checks, asked):
    """The rows of a table that may come in with a number, for each choice of words that fits."""
    lists = [
        entries_at(spot, marks, number, checks, asked)
        for spot, marks in enumerate(layouts[name], 1)
    ]
    return [(name, *entries) for entries in choices(lists)]


def ways_to_choose(problem, state, ask):
    """The states behind each way to choose a row."""
    rows, chosen = state
    slot = ask.slot
    old = [
        (rows, at) for at, row in enumerate(rows)
        if row[0] == ask.home and fits(row, ask.home_checks)
    ]
    new = [
        ((*rows, row), len(rows))
        for row in new_rows(problem.layouts, ask.home, len(rows), ask.home_checks, ())
        if row not in rows
    ]
    return [(those, (*chosen[:slot], at, *chosen[slot + 1:])) for those, at in [*old, *new]]


def ways(problem, state, ask, at):
    """The states to which the ways of a lack lead, in their order."""
    if is_unchosen(ask, state):
        return ways_to_choose(problem, state, ask)
    rows, chosen = state
    asked = asked_of(ask, rows, at)
    old = rows_by_joining(ask, rows, at)
    new = [
        (*rows, row)
        for row in new_rows(problem.layouts, ask.target, len(rows), ask.checks, asked)
        if row not in rows
    ]
    return [(those, chosen) for those in [*old, *new]]
