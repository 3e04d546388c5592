"""What kind a value is, and copies of any value."""

from onlylooks.limits import MAX_WORD

LETTERS = "abcdefghijklmnopqrstuvwxyz"


def is_integer(value):
    """Whether any value is an integer: a bool is none."""
    return isinstance(value, int) and not isinstance(value, bool)


def is_list(value):
    """Whether any value may be passed where a list is described."""
    return isinstance(value, (list, tuple))


def is_word(value):
    """Whether any value is a string of 1 to 8 letters from a to z."""
    if not isinstance(value, str) or not 1 <= len(value) <= MAX_WORD:
        return False
    # Letters are taken off at both ends, so what is left has something else in it.
    return value.strip(LETTERS) == ""


def are_words(value, fewest, most):
    """Whether any value is a list of so many words, all of them different."""
    if not is_list(value) or not fewest <= len(value) <= most:
        return False
    return all([is_word(each) for each in value]) and are_different(value)


def are_different(words):
    """Whether no word stands twice in a list."""
    return len(set(words)) == len(words)


def picks(values, many):
    """All tuples of so many of the values, each in their order."""
    if many == 0:
        return [()]
    return [
        (value, *rest) for at, value in enumerate(values)
        for rest in picks(values[at + 1:], many - 1)
    ]


def order_key(value):
    """What to sort keys of any kinds by: those of one kind stand in their order [3]."""
    if isinstance(value, int):
        return (1, value)
    if isinstance(value, str):
        return (2, value)
    if isinstance(value, tuple):
        return (3, tuple([order_key(each) for each in value]))
    return (0, 0)


def fresh(value):
    """Any value, with new lists and dicts for those in it, and keys in ascending order."""
    if not isinstance(value, (list, tuple, dict)):
        return value
    if isinstance(value, list):
        return [fresh(each) for each in value]
    if isinstance(value, tuple):
        return tuple([fresh(each) for each in value])
    return {key: fresh(value[key]) for key in sorted(list(value), key=order_key)}
