"""States [33]: rows with words and open names, what they lack, what closes them, and the ways on.

A state is a tuple (rows, chosen). A row is a tuple: the name of its table, and its entries behind
it. chosen has the number of the chosen row for each slot, or None.
"""


def is_open(entry):
    """Whether an entry is an open name: these begin with a digit, words with a letter."""
    return entry < "a"


def first_state(problem):
    """The state at the beginning."""
    return problem.first_rows, (None,) * problem.slots


def fits(row, checks):
    """Whether a row has at each spot one of the words that fit there."""
    for spot, words in checks:
        if row[spot] not in words:
            return False
    return True


def has(row, asked):
    """Whether a row has at each spot the entry that is asked for there."""
    for spot, entry in asked:
        if row[spot] != entry:
            return False
    return True


def asked_of(ask, rows, at):
    """The tuples (spot, entry) that rows have to have to count at a row; () for a count of all."""
    if at is None:
        return ()
    home = rows[at]
    return tuple([(second, home[first]) for first, second in ask.joins])


def candidates(ask, rows):
    """The rows of the table whose rows count."""
    return [row for row in rows if row[0] == ask.target]


def counting(ask, rows, asked):
    """The rows that count where these entries are asked for."""
    target, checks = ask.target, ask.checks
    return [
        row for row in rows
        if row[0] == target and fits(row, checks) and has(row, asked)
    ]


def count(ask, rows, at):
    """How many rows count at a row, or of all."""
    return len(counting(ask, rows, asked_of(ask, rows, at)))


def homes(ask, rows):
    """The numbers of the rows at which an Ask with a home table counts, or from which one is chosen."""
    home, checks = ask.home, ask.home_checks
    return [at for at, row in enumerate(rows) if row[0] == home and fits(row, checks)]


def spots(ask, state):
    """At which rows an Ask counts: [None] for a count of all, [] while no row is chosen."""
    rows, chosen = state
    if ask.home is None:
        return [None]
    if ask.slot is None:
        return homes(ask, rows)
    return [] if chosen[ask.slot] is None else [chosen[ask.slot]]


def is_unchosen(ask, state):
    """Whether a row is still to be chosen for an Ask."""
    return ask.slot is not None and state[1][ask.slot] is None


def is_closed(problem, state):
    """Whether more rows count somewhere than a bound from above lets, or a missing row is there."""
    rows, _ = state
    for _, row in problem.gone:
        if row in rows:
            return True
    for ask in problem.asks:
        if ask.high is not None:
            for at in spots(ask, state):
                if count(ask, rows, at) > ask.high:
                    return True
    return False


def closings(problem, state):
    """The tuples (number, at) by which a state is closed."""
    rows, _ = state
    passed = [
        (ask.number, at) for ask in problem.asks if ask.high is not None
        for at in spots(ask, state) if count(ask, rows, at) > ask.high
    ]
    back = [
        (number, at) for number, gone in problem.gone
        for at, row in enumerate(rows) if row == gone
    ]
    return [*passed, *back]


def lacks(problem, state):
    """The tuples (ask, at, how many rows are missing) of what a state lacks."""
    found = []
    for ask in problem.asks:
        if is_unchosen(ask, state):
            found.append((ask, None, 1))
        elif ask.low > 0:
            for at in spots(ask, state):
                many = count(ask, state[0], at)
                if many < ask.low:
                    found.append((ask, at, ask.low - many))
    return found


def joined(pairs):
    """What open names become when the entries of each pair are made equal; None if words stop it."""
    becomes = {}
    for one, other in pairs:
        one, other = becomes.get(one, one), becomes.get(other, other)
        if one != other:
            if not is_open(one):
                one, other = other, one
            if not is_open(one):
                return None
            becomes = {name: other if became == one else became for name, became in becomes.items()}
            becomes[one] = other
    return becomes


def renamed(rows, becomes):
    """The rows with other entries; None if two of them would be equal."""
    new = tuple([tuple([becomes.get(entry, entry) for entry in row]) for row in rows])
    return new if len(set(new)) == len(new) else None


def pairs_to_count(row, checks, asked):
    """The pairs of entries to be made equal so that a row counts; None if its words stop it."""
    pairs = [(row[spot], entry) for spot, entry in asked]
    for spot, words in checks:
        if row[spot] not in words:
            if not is_open(row[spot]):
                return None
            pairs.append((row[spot], words[0]))
    return pairs


def rows_by_joining(ask, rows, at):
    """The rows behind each way that makes a row count that is there."""
    asked = asked_of(ask, rows, at)
    found = []
    for row in candidates(ask, rows):
        pairs = pairs_to_count(row, ask.checks, asked)
        if pairs is not None:
            becomes = joined(pairs)
            # A row that counts already has nothing to be made equal.
            if becomes:
                new = renamed(rows, becomes)
                if new is not None:
                    found.append(new)
    return found


def choices(lists):
    """All tuples with one entry of each list, in order."""
    made = [()]
    for each in lists:
        made = [(*begun, entry) for begun in made for entry in each]
    return made


def entries_at(spot, marks, number, checks, asked):
    """The entries that a new row may have at a spot."""
    allowed = [words for at, words in checks if at == spot]
    told = [entry for at, entry in asked if at == spot]
    if marks is None:
        known = [*told, *[words[0] for words in allowed]]
        return [known[0] if known else f"{number}.{spot}"]
    return [
        word for word in marks
        if all([word in words for words in allowed]) and all([word == entry for entry in told])
    ]


def new_rows(layouts, name, number, checks, asked):
    """The rows of a table that may come in with a number, for each choice of words that fits."""
    lists = [
        entries_at(spot, marks, number, checks, asked)
        for spot, marks in enumerate(layouts[name], 1)
    ]
    return [(name, *entries) for entries in choices(lists)]


def ways_to_choose(problem, state, ask):
    """The states behind each way to choose a row."""
    rows, chosen = state
    slot = ask.slot
    old = [(rows, at) for at in homes(ask, rows)]
    new = [
        ((*rows, row), len(rows))
        for row in new_rows(problem.layouts, ask.home, len(rows), ask.home_checks, ())
        if row not in rows
    ]
    return [(those, (*chosen[:slot], at, *chosen[slot + 1:])) for those, at in [*old, *new]]


def ways(problem, state, ask, at):
    """The states to which the ways of a lack lead, in their order."""
    if is_unchosen(ask, state):
        return ways_to_choose(problem, state, ask)
    rows, chosen = state
    asked = asked_of(ask, rows, at)
    old = rows_by_joining(ask, rows, at)
    new = [
        (*rows, row)
        for row in new_rows(problem.layouts, ask.target, len(rows), ask.checks, asked)
        if row not in rows
    ]
    return [(those, chosen) for those in [*old, *new]]
