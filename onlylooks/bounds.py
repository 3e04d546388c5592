"""How many rows have to come into a state at least [32]."""

from onlylooks.states import asked_of, is_open


class Lack:
    """A lack of a state, with how many rows are missing, and the states behind its ways."""

    def __init__(self, ask, site, missing, states):
        self.ask = ask
        self.site = site
        self.missing = missing
        self.states = states


def words_asked(lack, rows):
    """The tuples (spot, words) for what rows of a lack have to have; at spot 0 is their table."""
    ask = lack.ask
    # At a chosen row, rows are to count; ahead of that, a row is to be chosen.
    if ask.slot is not None and lack.site is None:
        return [(0, (ask.home,)), *ask.home_checks]
    known = [(spot, (entry,)) for spot, entry in asked_of(ask, rows, lack.site) if not is_open(entry)]
    return [(0, (ask.target,)), *ask.checks, *known]


def have_unlike_words(one, other):
    """Whether no row has what two lists of tuples (spot, words) ask for."""
    for spot, words in one:
        for at, others in other:
            if spot == at and not [word for word in words if word in others]:
                return True
    return False


def are_unlike_homes(one, other, rows):
    """Whether two lacks of one Ask are at rows that would be equal if one row counted at both."""
    if one.ask.number != other.ask.number:
        return False
    joined = [first for first, _ in one.ask.joins]
    pairs = list(zip(rows[one.site], rows[other.site]))
    return all([spot in joined for spot, (entry, another) in enumerate(pairs) if entry != another])


def are_apart(one, other, rows):
    """Whether no row is of use for two lacks."""
    if have_unlike_words(words_asked(one, rows), words_asked(other, rows)):
        return True
    return are_unlike_homes(one, other, rows)


def new_rows_for(lack, rows):
    """How many rows have to come in for a lack at least: ways without a new row may spare some."""
    return lack.missing - len([those for those, _ in lack.states if len(those) == len(rows)])


def sum_apart(lacking, rows):
    """The sum of new rows for lacks, leaving out each one that is not apart from all before."""
    kept = []
    for lack in lacking:
        if all([are_apart(lack, before, rows) for before in kept]):
            kept.append(lack)
    return sum([new_rows_for(lack, rows) for lack in kept])


def more_rows(lacking, rows):
    """How many rows have to come in at least, by what a state lacks."""
    wanting = [lack for lack in lacking if new_rows_for(lack, rows) > 0]
    # Those that ask for most words are apart from many; those for many rows weigh much.
    narrow = sorted(wanting, key=lambda lack: -len(words_asked(lack, rows)))
    heavy = sorted(wanting, key=lambda lack: -new_rows_for(lack, rows))
    return max([sum_apart(narrow, rows), sum_apart(heavy, rows)])
