"""Tests: demands that tell for a field whether all of its demands hold [55] to [57]."""

from onlylooks.errors import OutOfRange, TooMany
from onlylooks.fields import check_index
from onlylooks.limits import MAX_OPEN
from onlylooks.values import picks


def truths_of(field):
    """For each answer, in order, a list that tells of each demand whether it holds."""
    return [
        [field.holds(number, answer) for number in range(len(field.demands))]
        for answer in field.answers()
    ]


def check_numbers(field, numbers):
    """Raises OutOfRange for the first entry that is no index of a demand, or stands ahead of it."""
    for at, number in enumerate(numbers):
        check_index(number, len(field.demands))
        if number in numbers[:at]:
            raise OutOfRange(number)


def are_test(truths, numbers):
    """Whether all demands hold wherever those with these indexes do."""
    return all([
        all(held) for held in truths
        if all([held[number] for number in numbers])
    ])


def is_test(field, numbers):
    """Whether a list of indexes of demands is a test of a field."""
    check_numbers(field, numbers)
    return are_test(truths_of(field), numbers)


def open_demands(field):
    """The indexes of the demands that hold for some answers, and for others do not."""
    return [number for number in range(len(field.demands)) if field.standing(number) == "open"]


def least_test(field):
    """The test that is left when, from the last to the first, demands are left out; a tuple or None."""
    if field.verdict in ("unfit", "never"):
        return None
    truths, left = truths_of(field), open_demands(field)
    for number in reversed(list(left)):
        rest = [each for each in left if each != number]
        if are_test(truths, rest):
            left = rest
    return tuple(left)


def first_without(field, test, number):
    """The first answer for which all demands of a test hold but for the one with an index."""
    for answer in field.answers():
        if [each for each in test if not field.holds(each, answer)] == [number]:
            return answer
    return None


def needed(field):
    """For each demand of the least test an answer that shows that it cannot be left out."""
    test = least_test(field)
    if test is None:
        return None
    return tuple([first_without(field, test, number) for number in test])


def leads(field, one, other):
    """Whether a demand holds wherever another one does, both told by their indexes."""
    check_index(one, len(field.demands))
    check_index(other, len(field.demands))
    return all([held[other] for held in truths_of(field) if held[one]])


def fewest_tests(field):
    """A list of all tests with as few demands as possible; None if no answer is kept."""
    wanting = open_demands(field)
    if len(wanting) > MAX_OPEN:
        raise TooMany(MAX_OPEN)
    if field.verdict in ("unfit", "never"):
        return None
    truths, found, many = truths_of(field), [], 0
    # All open demands together are a test, so one is found.
    while not found:
        found = [some for some in picks(wanting, many) if are_test(truths, some)]
        many += 1
    return found
