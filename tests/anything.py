"""Values of any kind, as [2] lists them, for wrong and for unusual arguments."""


def deep(levels):
    """A value that is nested so many levels deep."""
    value = "a"
    for level in range(levels):
        value = ([value], (value,), {"a": value})[level % 3]
    return value


def any_values():
    """New values of all kinds, none of them a word."""
    return [
        None, True, False, 0, 1, 2, 3, 4, 5, -1, 10 ** 59, -(10 ** 59),
        "", "A", "Ab", "aB", "a b", " a", "a ", "a\n", "a1", "a_b", "a-b", "abcdefghi", "\u00e9",
        "\u0131", "\u00df", "`", "{", "a" * 100,
        (), (1,), ("a",), ("a", "b"), ("a", "b", "c"), ("a", ["b"]), ((), ()), (None, None),
        [], [1], ["a"], ["a", "b"], ["a", "b", "c"], [["a", "b"]], [("a", "b")], [None],
        {}, {"a": "b"}, {"a": ["b"]}, {1: 2}, {None: []}, {(1, 2): {}}, deep(8),
    ]


def changed(value):
    """Changes each list and each dict in a value, all the way down."""
    if isinstance(value, dict):
        for inner in list(value.values()):
            changed(inner)
        value["zz"] = "zz"
    if isinstance(value, (list, tuple)):
        for inner in value:
            changed(inner)
    if isinstance(value, list):
        value.append("zz")


def is_plain(value):
    """Whether a value has exactly the kinds that [2] names, all the way down."""
    if type(value) in (list, tuple):
        return all(is_plain(each) for each in value)
    if type(value) is dict:
        return all(is_plain(key) and is_plain(value[key]) for key in value)
    return value is None or type(value) in (bool, int, str)


def is_key(value):
    """Whether a dict can have a value as a key."""
    try:
        hash(value)
    except TypeError:
        return False
    return True
