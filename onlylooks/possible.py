"""What is possible beside rules [31], [32], [36]."""

from onlylooks.asks import Problem
from onlylooks.databases import database_with
from onlylooks.errors import InvalidFact, TooMany
from onlylooks.facts import Counted, Long, Missing, Present, Short
from onlylooks.limits import MAX_WANTED
from onlylooks.searches import Search
from onlylooks.states import is_open
from onlylooks.statements import Rule, Total
from onlylooks.values import LETTERS


def is_fact(value, schema):
    """Whether any value is a fact of a schema."""
    return isinstance(value, (Present, Missing, Counted, Short, Long)) and value.is_of(schema)


def reach(rules, name):
    """How many rows a row of a table comes to at most, with the least rows that Rules ask for."""
    asking = [each for each in rules.statements if isinstance(each, Rule) and each.table == name]
    return 1 + sum([rule.least * reach(rules, rule.other) for rule in asking if rule.least >= 1])


def rows_for_long(statement):
    """The tuples (table, how many rows) that a Long wants."""
    if isinstance(statement, Total):
        return [(statement.table, statement.most + 1)]
    return [(statement.table, 1), (statement.other, statement.most + 1)]


def rows_for(fact):
    """The tuples (table, how many rows) that a fact wants."""
    if isinstance(fact, Present):
        return [(fact.table, 1)]
    if isinstance(fact, Counted):
        return [(fact.table, fact.least)]
    if isinstance(fact, Long):
        return rows_for_long(fact.statement)
    if isinstance(fact, Short) and isinstance(fact.statement, Rule):
        return [(fact.statement.table, 1)]
    return []


def sum_of_reaches(rules, rows):
    """The sum of the reaches of tuples (table, how many rows), and of the Totals of rules."""
    totals = [(each.table, each.least) for each in rules.statements if isinstance(each, Total)]
    return sum([many * reach(rules, name) for name, many in [*totals, *rows]])


def wanted(rules, *facts):
    """The sum of the reaches of all rows that facts and the Totals of rules want."""
    for index, fact in enumerate(facts):
        if not is_fact(fact, rules.schema):
            raise InvalidFact(index)
    return sum_of_reaches(rules, [each for fact in facts for each in rows_for(fact)])


def check_sum(many):
    """Raises TooMany if too many rows are wanted; returns how many."""
    if many > MAX_WANTED:
        raise TooMany(MAX_WANTED)
    return many


def check_wanted(rules, facts):
    """Raises InvalidFact or TooMany for facts that are not let beside rules; returns what is wanted."""
    return check_sum(wanted(rules, *facts))


def check_reaches(rules, rows):
    """Raises TooMany if tuples (table, how many rows) and the Totals of rules want too many rows."""
    check_sum(sum_of_reaches(rules, rows))


def word_of(number):
    """The word that a number is written as, with letters for digits."""
    many = len(LETTERS)
    word = LETTERS[int(number) % many]
    while number >= many:
        number = number // many
        word = LETTERS[int(number) % many] + word
    return word


def words_of(problem):
    """A dict of all words that rules and facts tell."""
    words = {}
    for ask in problem.asks:
        for _, asked in [*ask.checks, *ask.home_checks]:
            words.update({word: True for word in asked})
    for row in [*problem.first_rows, *[row for _, row in problem.gone]]:
        words.update({word: True for word in row})
    return words


def other_words(taken, many):
    """So many different words that are not taken."""
    words = []
    number = 0
    while len(words) < many:
        if word_of(number) not in taken:
            words.append(word_of(number))
        number += 1
    return words


def database_of(schema, taken, rows):
    """The Database with the rows of a state, open names being words that are not taken and unlike."""
    names = sorted(set([entry for row in rows for entry in row if is_open(entry)]))
    words = {name: word for name, word in zip(names, other_words(taken, len(names)))}
    return database_with(schema, [
        (name, tuple([words.get(entry, entry) for entry in entries])) for name, *entries in rows
    ])


def searched(rules, facts, is_for_fewest, bound=None):
    """A Database that keeps rules and has facts, with the fewest rows or any; None if there is none.

    Beside a bound, it has fewer rows than that.
    """
    problem = Problem(rules, facts)
    state = Search(problem, is_for_fewest, bound).end()
    return None if state is None else database_of(rules.schema, words_of(problem), state[0])


def any_database(rules, facts):
    """Any Database that keeps rules and has facts that are let; None if there is none."""
    return searched(rules, facts, False)


def database_with_fewer(rules, facts, bound):
    """The Database that possible tells, if it has fewer rows than a bound; otherwise None."""
    return searched(rules, facts, True, bound)


def possible(rules, *facts):
    """A database with the fewest rows that keeps rules and has facts; None if there is none."""
    check_wanted(rules, facts)
    return searched(rules, facts, True)


def numbers(rules, table, words, limit, *facts):
    """How many rows of a table fit words, up to a limit, where rules are kept and facts hold."""
    check_wanted(rules, [Counted(table, words, limit, None), *facts])
    bounds = [(number, number) for number in range(limit)]
    return tuple([
        least for least, most in [*bounds, (limit, None)]
        if any_database(rules, [Counted(table, words, least, most), *facts]) is not None
    ])
