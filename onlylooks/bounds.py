"""How many rows have to come into a state at least [32]."""

from onlylooks.states import asked_of, is_open, is_unchosen, rows_by_joining


def words_asked(ask, rows, at):
    """The tuples (spot, words) for what rows have to have to count; at spot 0 is their table."""
    known = [(spot, (entry,)) for spot, entry in asked_of(ask, rows, at) if not is_open(entry)]
    return [(0, (ask.target,)), *ask.checks, *known]


def are_apart(one, other):
    """Whether no row has what both ask for."""
    for spot, words in one:
        for at, others in other:
            if spot == at and not [word for word in words if word in others]:
                return True
    return False


def sum_apart(wants):
    """The sum of the rows that wants ask for, leaving out each one that is not apart from all before."""
    kept = []
    for many, asked in wants:
        if all([are_apart(asked, before) for _, before in kept]):
            kept.append((many, asked))
    return sum([many for many, _ in kept])


def more_rows(state, lacking):
    """How many rows have to come in at least, by what a state lacks."""
    rows, _ = state
    wants = []
    for ask, at, missing in lacking:
        if not is_unchosen(ask, state):
            many = missing - len(rows_by_joining(ask, rows, at))
            if many > 0:
                wants.append((many, words_asked(ask, rows, at)))
    # Those that ask for most words are apart from many; those for many rows weigh much.
    narrow = sorted(wants, key=lambda want: -len(want[1]))
    heavy = sorted(wants, key=lambda want: -want[0])
    return max([sum_apart(narrow), sum_apart(heavy)])
