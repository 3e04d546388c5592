"""The looks by which the demands of a change are told [50], [51]."""

from onlylooks.databases import matching
from onlylooks.demands import demands, words_at
from onlylooks.facts import are_words_of
from onlylooks.statements import Total, check_is_of, firsts_of, seconds_of
from onlylooks.values import fresh


def look_of(table, words, where, most):
    """The Look that asks for rows with words that fit where; None if it is left out."""
    is_let = all([words[column] in where[column] for column in where if column in words])
    if most <= 0 or not is_let:
        return None
    return Look(table, words, {column: where[column] for column in where if column not in words}, most)


def look_ahead(demand):
    """The look for a of a demand; None if it is left out."""
    told = demand.statement
    if isinstance(told, Total):
        return None
    words = words_at(firsts_of(told.pairs), demand.at)
    return look_of(told.table, words, told.where, 1 - demand.shift)


def other_look(demand):
    """The look for b of a demand; None if it is left out."""
    told = demand.statement
    most = (told.least if told.most is None else told.most + 1) - demand.other_shift
    if isinstance(told, Total):
        return look_of(told.table, {}, told.where, most)
    words = words_at(seconds_of(told.pairs), demand.at)
    return look_of(told.other, words, told.other_where, most)


def are_alike(one, other):
    """Whether two looks are equal but for most."""
    return (one.table, one.words, one.where) == (other.table, other.words, other.where)


def index_of(look, those):
    """The index of the look among those that is equal but for most; None if there is none."""
    for index, each in enumerate(those):
        if are_alike(look, each):
            return index
    return None


def merged(those):
    """The looks, each once where it first stands, with the greatest most of those alike."""
    kept = []
    for look in those:
        index = index_of(look, kept)
        if index is None:
            kept.append(look)
        elif kept[index].most < look.most:
            kept[index] = look
    return kept


def looks_of(told):
    """The looks of demands, each one's for a ahead of b, a tuple."""
    found = [look for demand in told for look in (look_ahead(demand), other_look(demand))]
    return tuple(merged([look for look in found if look is not None]))


def looks(rules, change):
    """The looks of all demands of a change, a tuple."""
    return looks_of(demands(rules, change))


class Look:
    """Asks how many rows of a table have told words and fit a where, but at most a told number."""

    def __init__(self, table, words, where, most):
        self._table = table
        self._words = fresh(words)
        self._where = fresh(where)
        self._most = most

    @property
    def table(self):
        return self._table

    @property
    def words(self):
        """A dict from columns to their words."""
        return dict(self._words)

    @property
    def where(self):
        """A dict from columns to the tuples of the words that fit."""
        return dict(self._where)

    @property
    def most(self):
        """The greatest answer."""
        return self._most

    def is_of(self, schema):
        """Whether databases of a schema have an answer."""
        words = {**self._words, **self._where}
        return self._table in schema and are_words_of(schema[self._table], words)

    def __call__(self, database):
        """The answer of a database."""
        check_is_of(self, database.schema)
        return min(matching(database, self._table, self._words, self._where), self._most)

    def __eq__(self, other):
        return isinstance(other, Look) and self._told() == other._told()

    def _told(self):
        return self._table, self._words, self._where, self._most
