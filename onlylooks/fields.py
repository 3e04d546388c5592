"""The field of a change: all answers that databases give to its looks [52] to [54]."""

from onlylooks.answers import Answers, words_of_look
from onlylooks.demands import demands, is_met
from onlylooks.errors import InvalidAnswer, NoAnswer, OutOfRange, TooMany
from onlylooks.facts import Counted, Missing, Present
from onlylooks.limits import MAX_ANSWERS
from onlylooks.looks import index_of, look_ahead, looks_of, other_look
from onlylooks.possible import check_reaches, database_of
from onlylooks.statements import Total
from onlylooks.values import is_integer


def fact_of(look, value):
    """The fact that a database gives this answer to a look."""
    return Counted(look.table, words_of_look(look), value, None if value == look.most else value)


def facts_of_change(change):
    """The facts that a change fits a database."""
    return [
        *[Present(name, row) for name, row in change.taken_rows],
        *[Missing(name, row) for name, row in change.put_rows],
    ]


def check_size(rules, change, told):
    """Raises TooMany if looks have too many answers, or want too many rows."""
    many = 1
    for look in told:
        many = many * (look.most + 1)
    if many > MAX_ANSWERS:
        raise TooMany(MAX_ANSWERS)
    taken = [(name, 1) for name, _ in change.taken_rows]
    check_reaches(rules, [*taken, *[(look.table, look.most) for look in told]])


def value_at(index, answer):
    """What an answer tells of a look with an index; 0 for one that is left out."""
    return 0 if index is None else answer[index]


class Teller:
    """Tells by answers to looks whether a demand holds."""

    def __init__(self, demand, told):
        ahead, other = look_ahead(demand), other_look(demand)
        self._demand = demand
        self._is_total = isinstance(demand.statement, Total)
        self._ahead = None if ahead is None else index_of(ahead, told)
        self._other = None if other is None else index_of(other, told)

    def holds(self, answer):
        """Whether the demand holds where the looks have these answers."""
        many = 1 if self._is_total else value_at(self._ahead, answer)
        return is_met(self._demand, many, value_at(self._other, answer))


def standing_of(truths):
    """How something stands that holds for some answers, and for others does not."""
    if not truths:
        return "unfit"
    if all(truths):
        return "always"
    return "open" if any(truths) else "never"


def check_index(value, many):
    """Raises OutOfRange for any value that is no index of so many things."""
    if not is_integer(value) or not 0 <= value < many:
        raise OutOfRange(value)


class Field:
    """All answers that some database gives which keeps rules and which a change fits."""

    def __init__(self, rules, change):
        self._demands = demands(rules, change)
        self._looks = looks_of(self._demands)
        check_size(rules, change, self._looks)
        self._facts = facts_of_change(change)
        answers = Answers(rules, self._facts, self._looks)
        self._schema = rules.schema
        self._told_words = answers.told_words()
        self._rows = answers.rows_by_answer()
        tellers = [Teller(demand, self._looks) for demand in self._demands]
        self._truths = {answer: [each.holds(answer) for each in tellers] for answer in self._rows}

    @property
    def looks(self):
        """The looks of the change, a tuple."""
        return self._looks

    @property
    def demands(self):
        """The demands of the change, a tuple."""
        return self._demands

    @property
    def verdict(self):
        """unfit, never, always or open: for which answers all demands hold."""
        return standing_of([all(self._truths[answer]) for answer in self._truths])

    def answers(self):
        """A list of all answers, ascending."""
        return list(self._rows)

    def is_answer(self, value):
        """Whether any value is one of the answers."""
        return self._is_told(value) and value in self._rows

    def _is_told(self, value):
        """Whether any value is a tuple with an integer from 0 to its most for each look."""
        if not isinstance(value, tuple) or len(value) != len(self._looks):
            return False
        return all([
            is_integer(number) and 0 <= number <= look.most
            for number, look in zip(value, self._looks)
        ])

    def facts(self, answer):
        """The list of facts that a database has exactly if the change fits it and it answers so."""
        if not self._is_told(answer):
            raise InvalidAnswer(answer)
        return [*self._facts, *[fact_of(look, value) for look, value in zip(self._looks, answer)]]

    def holds(self, number, answer):
        """Whether the demand with an index holds for an answer."""
        check_index(number, len(self._demands))
        self._check_answer(answer)
        return self._truths[answer][number]

    def is_kept(self, answer):
        """Whether all demands hold for an answer."""
        self._check_answer(answer)
        return all(self._truths[answer])

    def standing(self, number):
        """unfit, sure, refused or open: for which answers the demand with an index holds."""
        check_index(number, len(self._demands))
        told = standing_of([self._truths[answer][number] for answer in self._truths])
        return {"always": "sure", "never": "refused"}.get(told, told)

    def _check_answer(self, answer):
        """Raises NoAnswer for any value that is none of the answers."""
        if not self.is_answer(answer):
            raise NoAnswer(answer)

    def __getitem__(self, at):
        """A new database that keeps the rules and gives an answer."""
        if not self.is_answer(at):
            raise NoAnswer(at)
        return database_of(self._schema, self._told_words, self._rows[at])

    # Without this, Python would go over a field by indexes.
    def __iter__(self):
        raise TypeError("a field is not iterated over")

    def __len__(self):
        return len(self._rows)
