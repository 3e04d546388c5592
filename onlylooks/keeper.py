"""Keepers: databases that are kept by looks alone, one that is not seen or one of their own [80] to [84]."""

from onlylooks.changes import check_fits, do_in
from onlylooks.errors import (
    Broken, Circle, InvalidAnswer, InvalidChange, InvalidFact, InvalidLimit, InvalidNames, InvalidPair,
    InvalidRow, InvalidRule, InvalidSchema, InvalidTable, InvalidTemplate, LookFailed, Misfit, NeverFits,
    NoAnswer, NoBranch, NoCase, NoLine, NoLook, Nothing, OtherSchema, OutOfRange, Refused, TooDear,
    TooMany, Unfit, UnknownColumn, UnknownTable, Unreadable,
)
from onlylooks.fields import Field
from onlylooks.kinds import kind_of
from onlylooks.looks import looks
from onlylooks.plans import behind_of, depth, plan
from onlylooks.rules import check_kept
from onlylooks.values import is_integer


class Keeper:
    """Keeps the rules in a database that it does not see: look tells of it, and write changes it."""

    def __init__(self, rules, look, write):
        self._rules = rules
        self._look = look
        self._write = write
        self._steps = []
        self._looked = []
        self._most_looks = None
        # The plans of all kinds of changes that were met, None for those that fit no database.
        self._plans = {}
        # So many steps were done ahead of the attempt that goes on: these stay.
        self._firm = 0

    @property
    def rules(self):
        return self._rules

    @property
    def steps(self):
        """The changes that were done and not undone, a tuple."""
        return tuple(self._steps)

    @property
    def looked(self):
        """The tuples (look, answer) of the last call that asked, a tuple."""
        return tuple(self._looked)

    @property
    def most_looks(self):
        """How many looks a change may need at most, or None."""
        return self._most_looks

    def allow(self, value):
        """Sets how many looks a change may need at most; None for no bound."""
        if value is not None and (not is_integer(value) or value < 0):
            raise InvalidLimit(value)
        self._most_looks = value

    def __call__(self, change):
        """kept or broken, told by looks; nothing is written."""
        return self._tell_of(change)

    def do(self, change):
        """Writes a change, if it is kept."""
        if self._tell_of(change) == "broken":
            raise Refused(change)
        write = self._write
        write(change)
        self._steps.append(change)

    def undo(self):
        """Writes the contrary of the last step that is not undone."""
        if len(self._steps) == self._firm:
            raise Nothing()
        self._take_back()
        self._looked = []

    def attempt(self, call):
        """Whether a call of the keeper returned True; if not, the steps within it are undone."""
        outer, self._firm = self._firm, len(self._steps)
        try:
            is_done = call(self) is True
        except (
            Broken, Circle, InvalidAnswer, InvalidChange, InvalidFact, InvalidLimit, InvalidNames,
            InvalidPair, InvalidRow, InvalidRule, InvalidSchema, InvalidTable, InvalidTemplate, LookFailed,
            Misfit, NeverFits, NoAnswer, NoBranch, NoCase, NoLine, NoLook, Nothing, OtherSchema, OutOfRange,
            Refused, TooDear, TooMany, Unfit, UnknownColumn, UnknownTable, Unreadable,
        ):
            self._take_all_back()
            raise
        else:
            if not is_done:
                self._take_all_back()
        finally:
            self._firm = outer
        return is_done

    def _take_back(self):
        """Undoes the last step."""
        write = self._write
        write(self._steps[-1].contrary())
        self._steps.pop()

    def _take_all_back(self):
        """Undoes all steps of the attempt that goes on, from the last to the first."""
        while len(self._steps) > self._firm:
            self._take_back()

    def _tell_of(self, change):
        """kept or broken, told by the looks of the plan of a change."""
        self._looked = []
        told = looks(self._rules, change)
        part = self._plan_of(change)
        most = self._most_looks
        if most is not None and depth(part) > most:
            raise TooDear(depth(part))
        while part[0] == "look":
            part = self._led(part, told[part[1]])
        return part[0]

    def _plan_of(self, change):
        """The plan of a change: names make no difference to it [73]."""
        kind = kind_of(change)
        if kind not in self._plans:
            field = Field(self._rules, change)
            self._plans[kind] = None if field.verdict == "unfit" else plan(field)
        if self._plans[kind] is None:
            raise NeverFits()
        return self._plans[kind]

    def _led(self, part, question):
        """Asks the look with which a plan begins; the plan behind its answer."""
        answer = self._answer(question)
        behind = behind_of(part, answer)
        if behind is None:
            raise InvalidAnswer(answer)
        self._note(question, answer)
        return behind

    def _answer(self, question):
        """What look returns for a Look."""
        look, number = self._look, len(self._looked)
        try:
            return look(question)
        except NoLook as why:
            raise LookFailed(number) from why

    def _note(self, question, answer):
        """Keeps in mind that a look was answered rightly."""
        self._looked.append((question, answer))


class CountingKeeper(Keeper):
    """A Keeper that counts the looks of all calls."""

    def __init__(self, rules, look, write):
        super().__init__(rules, look, write)
        self._total = 0

    @property
    def total(self):
        """The number of all looks that were answered rightly, in all calls."""
        return self._total

    def _note(self, question, answer):
        super()._note(question, answer)
        self._total += 1


def look_in(database):
    """A look that asks a database."""
    return lambda question: question(database)


def write_in(database):
    """A write that does changes in a database."""
    return lambda change: do_in(database, change)


class House(Keeper):
    """A Keeper over a database of its own."""

    def __init__(self, rules, database):
        check_kept(rules, database)
        own = database.copied()
        super().__init__(rules, look_in(own), write_in(own))
        self._own = own

    @property
    def database(self):
        """A copy of its database."""
        return self._own.copied()

    def __call__(self, change):
        """kept or broken, told by looks; nothing is written."""
        self._check_fits(change)
        return self._tell_of(change)

    def do(self, change):
        """Does a change in its database, if it is kept."""
        self._check_fits(change)
        super().do(change)

    def _check_fits(self, change):
        """Raises OtherSchema or Unfit for a change that does not fit its database."""
        self._looked = []
        check_fits(change, self._own)


class CountingHouse(House, CountingKeeper):
    """A House that counts the looks of all calls."""

    def __init__(self, rules, database):
        super().__init__(rules, database)
