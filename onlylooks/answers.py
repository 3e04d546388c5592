"""All answers that databases give to looks, each with rows that give it [52]."""

from onlylooks.asks import Problem
from onlylooks.facts import Counted
from onlylooks.possible import words_of
from onlylooks.searches import Search
from onlylooks.states import roles_of, tally
from onlylooks.steps import MOST_STEPS


def words_of_look(look):
    """The words of a Counted that counts what a look asks for."""
    words, where = look.words, look.where
    for column in where:
        words[column] = list(where[column])
    return words


class Answers:
    """The answers to looks that are possible where facts hold beside rules."""

    def __init__(self, rules, facts, told):
        counted = [Counted(look.table, words_of_look(look), 0, None) for look in told]
        self._problem = Problem(rules, [*facts, *counted])
        # One search follows another one that differs by the bounds of looks alone.
        self._problem.most_steps = MOST_STEPS
        self._looks = told
        self._asks = self._problem.asks[len(self._problem.asks) - len(told):]
        self._rows = {}
        # All beginnings of the answers that were met.
        self._beginnings = {}
        self._go_on(())

    def _end(self, begun, is_for_fewest, bound=None):
        """The rows to which a search comes where answers begin so; None if there are none."""
        for ask in self._asks:
            ask.low, ask.high = 0, None
        for ask, look, value in zip(self._asks, self._looks, begun):
            ask.low, ask.high = value, None if value == look.most else value
        state = Search(self._problem, is_for_fewest, bound).end()
        return None if state is None else state[0]

    def _answer(self, rows):
        """What rows answer to the looks."""
        many = tally(roles_of(self._problem, rows))
        return tuple([
            min([many.get((ask.number,), 0), look.most])
            for ask, look in zip(self._asks, self._looks)
        ])

    def _is_met(self, begun):
        """Whether some rows give an answer that begins so: those that were met before, or other ones."""
        if begun in self._beginnings:
            return True
        rows = self._end(begun, False)
        if rows is None:
            return False
        answer = self._answer(rows)
        self._rows[answer] = rows
        for many in range(len(answer) + 1):
            self._beginnings[answer[:many]] = True
        return True

    def _go_on(self, begun):
        """Goes through all answers that begin so; with none of them if no rows give one."""
        if self._is_met(begun) and len(begun) < len(self._looks):
            for value in range(self._looks[len(begun)].most + 1):
                self._go_on((*begun, value))

    def rows_by_answer(self):
        """A dict from all answers, ascending, to rows that give each one."""
        return {answer: self._rows[answer] for answer in sorted(list(self._rows))}

    def fewer_rows(self, answer, bound):
        """The fewest rows that give an answer, if these are less than a bound; otherwise None."""
        return self._end(answer, True, bound)

    def told_words(self):
        """A dict of all words that rules, facts and looks tell."""
        return words_of(self._problem)
