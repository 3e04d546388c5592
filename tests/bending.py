"""Values like a right one, but with one thing otherwise, at any depth."""

WORDS = ("kept", "broken", "look", "apart", "answers", "", "Kept")


def bent(value):
    """All values that differ from a value of tuples, numbers, texts and None in one thing."""
    if isinstance(value, tuple):
        yield from bent_tuples(value)
    elif isinstance(value, str):
        yield from [word for word in WORDS if word != value]
        yield from [None, 0, (value,), [value], value.encode()]
    elif value is None:
        yield from [0, False, "", (), (None,), [None]]
    else:
        yield from [bool(value), not value, value + 1, value - 1, -1, 10 ** 59, None, str(value), (value,), [value]]


def bent_tuples(value):
    yield list(value)
    yield (value,)
    yield {at: each for at, each in enumerate(value)}
    for at, each in enumerate(value):
        before, behind = value[:at], value[at + 1:]
        yield before + behind
        yield before + (each, each) + behind
        if behind:
            yield before + (behind[0], each) + behind[1:]
        for other in bent(each):
            yield before + (other,) + behind
    for more in (None, 0, (), "kept", (0, ("kept",)), ("kept",)):
        yield value + (more,)
