"""Rules as texts, and rows as bytes [90], [91]."""

from onlylooks.databases import Database
from onlylooks.errors import Circle, InvalidRule, InvalidSchema, InvalidTable, Misfit, TooMany, Unreadable
from onlylooks.rules import Rules
from onlylooks.statements import Rule, Total
from onlylooks.tables import Schema, Table

LEASTS = {"0": 0, "1": 1, "2": 2}
MOSTS = {"0": 0, "1": 1, "2": 2, "3": 3, "any": None}
SIGNS = b" abcdefghijklmnopqrstuvwxyz"


def column_text(column, marks):
    """A mark column with its words, or some of them."""
    told = "|".join(marks)
    return f"{column}:{told}"


def table_line(table):
    """The line of a table."""
    marks = table.marks
    columns = [
        column_text(column, marks[column]) if column in marks else column
        for column in table.columns
    ]
    return " ".join(["table", table.name, *columns])


def where_words(word, where):
    """The words of a line behind where or other; none if there are no columns."""
    if not where:
        return []
    return [word, *[column_text(column, where[column]) for column in where]]


def statement_line(told):
    """The line of a statement."""
    bounds = ["from", f"{told.least}", "to", "any" if told.most is None else f"{told.most}"]
    where = where_words("where", told.where)
    if isinstance(told, Total):
        return " ".join(["total", told.table, *bounds, *where])
    pairs = [f"{first}={second}" for first, second in told.pairs]
    other = where_words("other", told.other_where)
    return " ".join(["rule", told.table, told.other, *pairs, *bounds, *where, *other])


def show_rules(rules):
    """A text with a line for each table and each statement of rules."""
    tables = [table_line(rules.schema[name]) for name in rules.schema.names]
    return "\n".join([*tables, *[statement_line(told) for told in rules.statements]])


def halves(text, sign):
    """What stands ahead of a sign, and what stands behind it."""
    first, _, second = text.partition(sign)
    return first, second


def column_of(word):
    """The column that a word of the line of a table tells."""
    if ":" not in word:
        return word
    column, marks = halves(word, ":")
    return column, marks.split("|")


def where_of(words):
    """The where that words tell; None if they are none, or tell a column twice."""
    where = {}
    for word in words:
        column, marks = halves(word, ":")
        if column in where:
            return None
        where[column] = marks.split("|")
    return where if where else None


def parts_behind(words, word):
    """The words ahead of a word, and those behind it; None for the latter if it does not stand there."""
    if word not in words:
        return words, None
    at = words.index(word)
    return words[:at], words[at + 1:]


def wheres_of(words):
    """The tuple (where, other where) that the words behind the bounds tell; None if they tell none."""
    words, behind = parts_behind(words, "other")
    ahead, between = parts_behind(words, "where")
    where = None if between is None else where_of(between)
    other_where = None if behind is None else where_of(behind)
    if ahead or (between is not None and where is None) or (behind is not None and other_where is None):
        return None
    return where, other_where


def bounds_of(words):
    """The tuple (least, most, words behind) that words from the word from on tell; None if they tell none."""
    if len(words) < 4 or (words[0], words[2]) != ("from", "to"):
        return None
    if words[1] not in LEASTS or words[3] not in MOSTS:
        return None
    return LEASTS[words[1]], MOSTS[words[3]], words[4:]


def total_of(words):
    """The Total that the words of a line tell; None if they tell none."""
    bounds = bounds_of(words[2:])
    if bounds is None:
        return None
    least, most, behind = bounds
    wheres = wheres_of(behind)
    if wheres is None or wheres[1] is not None:
        return None
    return Total(words[1], least, most, where=wheres[0])


def rule_of(words):
    """The Rule that the words of a line tell; None if they tell none."""
    # Words of pairs have a sign in them, so the first word from behind the tables is no name.
    pairs, _ = parts_behind(words[3:], "from")
    bounds = bounds_of(words[3 + len(pairs):])
    if bounds is None:
        return None
    least, most, behind = bounds
    wheres = wheres_of(behind)
    if wheres is None:
        return None
    where, other_where = wheres
    pairs = [halves(pair, "=") for pair in pairs]
    return Rule(words[1], words[2], pairs, least, most, where=where, other_where=other_where)


def statement_of(words):
    """The statement that the words of a line tell; None if they tell none."""
    if words[0] == "total":
        return total_of(words)
    return rule_of(words) if words[0] == "rule" else None


def with_table(rules, words):
    """Rules with one table more, which the words of a line tell; None if tables may not stand here."""
    if len(words) < 2 or (rules is not None and len(rules) > 0):
        return None
    columns = [column_of(word) for word in words[2:]]
    table = Table(words[1], *columns)
    tables = [] if rules is None else [rules.schema[name] for name in rules.schema.names]
    return Rules(Schema(*tables, table))


def with_line(rules, line):
    """Rules with what a line tells beside them, None ahead of the first one; None if it tells nothing."""
    words = line.split(" ")
    if words[0] == "table":
        return with_table(rules, words)
    told = statement_of(words)
    if rules is None or told is None:
        return None
    return rules + Rules(rules.schema, told)


def rules_with(rules, line):
    """Rules with what a line tells beside them; None if these are none."""
    try:
        return with_line(rules, line)
    except (InvalidTable, InvalidSchema, InvalidRule, Misfit, TooMany, Circle):
        return None


def read_rules(text):
    """The Rules that a text tells."""
    if not isinstance(text, str):
        raise Unreadable(0)
    rules = None
    for index, line in enumerate(text.split("\n")):
        rules = rules_with(rules, line)
        if rules is None:
            raise Unreadable(index)
    return rules


def show_rows(database):
    """Bytes with a line for each row of a database."""
    lines = [
        " ".join([name, *row]) + "\n"
        for name in database.schema.names for row in database[name]
    ]
    return "".join(lines).encode()


def read_rows(schema, data):
    """The Database whose rows are told by bytes."""
    if not isinstance(data, bytes):
        raise Unreadable(0)
    database = Database(schema)
    lines = data.split(b"\n")
    for index, line in enumerate(lines[:-1]):
        if not all([sign in SIGNS for sign in line]):
            raise Unreadable(index)
        name, *row = line.decode("ascii").split(" ")
        if name not in schema or not schema[name].is_row(tuple(row)):
            raise Unreadable(index)
        database.put(name, tuple(row))
    # What stands behind the last newline byte is a line without one.
    if lines[-1] != b"":
        raise Unreadable(len(lines) - 1)
    return database
