"""How many rows have to come into a state at least [32]."""

from onlylooks.states import asked_of, is_open


class Lack:
    """A lack of a state, with how many rows have to come in for it at least, and its Ways."""

    def __init__(self, ask, site, new, ways):
        self.ask = ask
        self.site = site
        self.new = new
        self.ways = ways


def words_asked(lack, rows):
    """The tuples (spot, words) for what rows of a lack have to have; at spot 0 is their table."""
    ask = lack.ask
    # At a chosen row, rows are to count; ahead of that, a row is to be chosen.
    if ask.slot is not None and lack.site is None:
        return [(0, (ask.home,)), *ask.home_checks]
    known = [(spot, (entry,)) for spot, entry in asked_of(ask, rows, lack.site) if not is_open(entry)]
    return [(0, (ask.target,)), *ask.checks, *known]


def have_unlike_words(one, other):
    """Whether no row has what two lists of tuples (spot, words) ask for."""
    for spot, words in one:
        for at, others in other:
            if spot == at and not [word for word in words if word in others]:
                return True
    return False


def are_unlike_homes(one, other, rows):
    """Whether two lacks of one Ask are at rows that would be equal if one row counted at both."""
    if one.ask.number != other.ask.number:
        return False
    joined = [first for first, _ in one.ask.joins]
    pairs = list(zip(rows[one.site], rows[other.site]))
    return all([spot in joined for spot, (entry, another) in enumerate(pairs) if entry != another])


def are_apart(one, other, rows):
    """Whether no row is of use for two lacks."""
    if have_unlike_words(words_asked(one, rows), words_asked(other, rows)):
        return True
    return are_unlike_homes(one, other, rows)


def sum_apart(lacking, rows):
    """The sum of new rows for lacks, leaving out each one that is not apart from all before."""
    kept = []
    for lack in lacking:
        if all([are_apart(lack, before, rows) for before in kept]):
            kept.append(lack)
    return sum([lack.new for lack in kept])


def more_rows(lacking, rows):
    """How many rows have to come in at least, by what a state lacks."""
    wanting = [lack for lack in lacking if lack.new > 0]
    if len(wanting) < 2:
        return sum([lack.new for lack in wanting])
    # Those that ask for most words are apart from many; those for many rows weigh much.
    narrow = sorted(wanting, key=lambda lack: -len(words_asked(lack, rows)))
    heavy = sorted(wanting, key=lambda lack: -lack.new)
    return max([sum_apart(narrow, rows), sum_apart(heavy, rows)])
