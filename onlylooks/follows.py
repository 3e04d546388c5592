"""What follows from rules [34], [35]."""

from onlylooks.databases import check_equal
from onlylooks.errors import Misfit
from onlylooks.facts import Counted, Long, Short
from onlylooks.possible import any_database, check_wanted, possible
from onlylooks.rules import Rules
from onlylooks.statements import is_statement


def breaches(statement):
    """The facts of which one holds where a statement is not kept."""
    facts = []
    if statement.least > 0:
        facts.append(Short(statement))
    if statement.most is not None:
        facts.append(Long(statement))
    return facts


def check_breaches(rules, statements):
    """Raises TooMany if Short or Long of one of the statements wants too much beside rules."""
    for statement in statements:
        for fact in breaches(statement):
            check_wanted(rules, [fact])


def follows(rules, statement):
    """A database with the fewest rows that keeps rules, but not a statement; None if there is none."""
    if not is_statement(statement, rules.schema):
        raise Misfit(0)
    databases = [possible(rules, fact) for fact in breaches(statement)]
    return min([each for each in databases if each is not None], key=len, default=None)


def is_kept_by(rules, statement):
    """Whether each database that keeps rules keeps a statement, too."""
    return all([any_database(rules, [fact]) is None for fact in breaches(statement)])


def covers(rules, others):
    """Whether all statements of other Rules follow from rules."""
    check_equal(rules.schema, others.schema)
    check_breaches(rules, others.statements)
    return all([is_kept_by(rules, statement) for statement in others.statements])


def without(rules, index):
    """The Rules without the statement with an index."""
    left = [*rules.statements[:index], *rules.statements[index + 1:]]
    return Rules(rules.schema, *left)


def follows_from_others(rules, index):
    """Whether the statement with an index follows from the other ones."""
    return is_kept_by(without(rules, index), rules.statements[index])


def needless(rules):
    """The indexes of all statements that follow from the others together, a tuple."""
    check_breaches(rules, rules.statements)
    return tuple([index for index in range(len(rules)) if follows_from_others(rules, index)])


def core(rules):
    """The Rules that are left when, from the last on, each one is left out that follows."""
    check_breaches(rules, rules.statements)
    left = rules
    for index in reversed(range(len(rules))):
        if follows_from_others(left, index):
            left = without(left, index)
    return left


def barren(rules):
    """The names of the tables that have no row in any database that keeps rules, a tuple."""
    facts = {name: Counted(name, {}, 1, None) for name in rules.schema.names}
    for name in facts:
        check_wanted(rules, [facts[name]])
    return tuple([name for name in facts if any_database(rules, [facts[name]]) is None])
