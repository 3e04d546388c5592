"""The errors [95]: each is directly below one of Python's own, and keeps its fields."""


class InvalidTable(ValueError):
    """An argument of Table is not as told [10]."""

    def __init__(self, argument):
        self.argument = argument


class InvalidSchema(ValueError):
    """The tables of a Schema are not as told [11]."""


class InvalidRow(ValueError):
    """A value is no row of the table [12]."""

    def __init__(self, value):
        self.value = value


class OtherSchema(ValueError):
    """Something is of another schema than what it meets."""


class InvalidRule(ValueError):
    """An argument of Rule or Total is not as told [20]."""

    def __init__(self, argument):
        self.argument = argument


class Misfit(ValueError):
    """A value is no statement of the schema [22]."""

    def __init__(self, index):
        self.index = index


class Circle(ValueError):
    """Rules lead from this table back to it [22]."""

    def __init__(self, value):
        self.value = value


class InvalidFact(ValueError):
    """A value is no fact of the schema [31]."""

    def __init__(self, index):
        self.index = index


class InvalidChange(ValueError):
    """A value is no entry of the schema, or stands twice [40]."""

    def __init__(self, index):
        self.index = index


class InvalidAnswer(ValueError):
    """A value is no answer to the looks, or to one of them [53], [82]."""

    def __init__(self, value):
        self.value = value


class InvalidTemplate(ValueError):
    """An entry of a template, or the whole of it, is not as told [70], [71]."""

    def __init__(self, index):
        self.index = index


class InvalidNames(ValueError):
    """A value is not a list of a name for each parameter [71]."""

    def __init__(self, value):
        self.value = value


class InvalidPair(ValueError):
    """Two changes are not apart [74]."""


class InvalidLimit(ValueError):
    """A value is no bound for the looks of a change [81]."""

    def __init__(self, value):
        self.value = value


class Unreadable(ValueError):
    """A line cannot be read [90], [91]."""

    def __init__(self, index):
        self.index = index


class NoLine(ValueError):
    """A desk is told what it does not know [92]."""


class UnknownTable(LookupError):
    """A value is not the name of a table [11], [12]."""

    def __init__(self, value):
        self.value = value


class UnknownColumn(LookupError):
    """A value is not a column of the table [12]."""

    def __init__(self, value):
        self.value = value


class OutOfRange(LookupError):
    """A value is no index of what is counted here [54]."""

    def __init__(self, value):
        self.value = value


class NoAnswer(LookupError):
    """A value is no answer of the field [53]."""

    def __init__(self, value):
        self.value = value


class NoCase(LookupError):
    """A case is not among those of the template [71]."""

    def __init__(self, case):
        self.case = case


class NoBranch(LookupError):
    """A plan has no branch for a value [62]."""

    def __init__(self, value):
        self.value = value


class Nothing(LookupError):
    """There is no step to undo [80]."""


class TooMany(OverflowError):
    """There is more of something than its limit lets."""

    def __init__(self, limit):
        self.limit = limit


class TooDear(OverflowError):
    """A change needs more looks than are allowed [81]."""

    def __init__(self, number):
        self.number = number


class Broken(RuntimeError):
    """A statement is not kept at a place, though it has to be."""

    def __init__(self, index, spot):
        self.index = index
        self.spot = spot


class Unfit(RuntimeError):
    """An entry does not fit the database [41], [79]."""

    def __init__(self, index):
        self.index = index


class NeverFits(RuntimeError):
    """No database that keeps the rules fits the change [61]."""


class Refused(RuntimeError):
    """The rules would be broken behind a change [80]."""

    def __init__(self, change):
        self.change = change


class LookFailed(RuntimeError):
    """A look of a call had no answer [82]."""

    def __init__(self, number):
        self.number = number


class NoLook(RuntimeError):
    """Raised by looks of the caller alone: there is no answer [82]."""

    def __init__(self, value):
        self.value = value
