"""Plans, which look by look decide a field, and resistances, which show that none is shorter [60] to [64]."""

from onlylooks.errors import NeverFits, NoBranch
from onlylooks.fields import check_index
from onlylooks.values import is_integer, picks


def verdict_of(field, answer):
    """kept if all demands hold for an answer, otherwise broken."""
    return "kept" if field.is_kept(answer) else "broken"


def verdicts_of(field):
    """A dict from the answers of a field, ascending, to their verdicts."""
    return {answer: verdict_of(field, answer) for answer in field.answers()}


def parts_of(answers, number):
    """A dict from the values that a look has in answers, ascending, to the answers with each one."""
    parts = {}
    for answer in answers:
        parts.setdefault(answer[number], []).append(answer)
    return {value: tuple(parts[value]) for value in sorted(list(parts))}


class Shortest:
    """Plans of least depth for some answers of a field, each kept for when it is asked for again."""

    def __init__(self, field):
        self._many = len(field.looks)
        self._verdicts = verdicts_of(field)
        self._found = {}

    def found(self, answers):
        """The tuple (depth, plan) of a plan that decides a tuple of answers."""
        if answers not in self._found:
            self._found[answers] = self._made(answers)
        return self._found[answers]

    def _made(self, answers):
        verdicts = sorted(set([self._verdicts[answer] for answer in answers]))
        if len(verdicts) == 1:
            return 0, (verdicts[0],)
        parted = [(number, parts_of(answers, number)) for number in range(self._many)]
        made = [self._begun(number, parts) for number, parts in parted if len(parts) > 1]
        return min(made, key=lambda each: each[0])

    def _begun(self, number, parts):
        """The tuple (depth, plan) of a plan that begins with a look."""
        behind = [(value, self.found(parts[value])) for value in parts]
        many = max([below for _, (below, _) in behind])
        return many + 1, ("look", number, tuple([(value, told) for value, (_, told) in behind]))

    def apart(self, answers):
        """Two of these answers with unlike verdicts, the first of each kind."""
        one = answers[0]
        others = [each for each in answers if self._verdicts[each] != self._verdicts[one]]
        return one, others[0]


def plan(field):
    """Any plan of least depth that decides a field."""
    if field.verdict == "unfit":
        raise NeverFits()
    _, told = Shortest(field).found(tuple(field.answers()))
    return told


def depth(plan):
    """The greatest number of looks on a way through a plan."""
    greatest, waiting = 0, [(0, plan)]
    # Not by calls of itself: a plan may be nested a hundred deep.
    while waiting:
        many, part = waiting.pop()
        greatest = max([greatest, many])
        if part[0] == "look":
            waiting.extend([(many + 1, behind) for _, behind in part[2]])
    return greatest


def is_branch(value, most):
    """Whether any value is a tuple of a value of a look and something behind it."""
    if not isinstance(value, tuple) or len(value) != 2:
        return False
    return is_integer(value[0]) and 0 <= value[0] <= most


def are_branches(value, most):
    """Whether any value is a tuple of branches, their values ascending."""
    if not isinstance(value, tuple) or len(value) == 0:
        return False
    if not all([is_branch(each, most) for each in value]):
        return False
    return all([one < other for (one, _), (other, _) in zip(value, value[1:])])


def is_step(field, value):
    """Whether any value is a tuple of the word look, the index of a look, and branches."""
    if not isinstance(value, tuple) or len(value) != 3 or value[0] != "look":
        return False
    if not is_integer(value[1]) or not 0 <= value[1] < len(field.looks):
        return False
    return are_branches(value[2], field.looks[value[1]].most)


def is_end(value):
    """Whether any value is a plan without branches."""
    return value in (("kept",), ("broken",))


def is_plan(field, value):
    """Whether any value is a plan that decides a field."""
    verdicts = verdicts_of(field)
    waiting = [(value, list(verdicts))]
    while waiting:
        part, answers = waiting.pop()
        if is_end(part):
            if [answer for answer in answers if verdicts[answer] != part[0]]:
                return False
        elif is_step(field, part):
            number, led = part[1], []
            for at, behind in part[2]:
                led.append((behind, [answer for answer in answers if answer[number] == at]))
            # Answers without a branch are stuck.
            if sum([len(some) for _, some in led]) < len(answers):
                return False
            waiting.extend(led)
        else:
            return False
    return True


def behind_of(part, value):
    """The plan behind any value at the look with which a plan begins; None if it has no branch."""
    if is_integer(value):
        for at, behind in part[2]:
            if at == value:
                return behind
    return None


def decided(field, plan, ask):
    """kept or broken, told by the values that ask returns for the looks on the way through a plan."""
    part = plan
    while part[0] == "look":
        value = ask(field.looks[part[1]])
        behind = behind_of(part, value)
        if behind is None:
            raise NoBranch(value)
        part = behind
    return part[0]


def resisting(shortest, answers, told, many):
    """Any resistance of many where these looks are told and these answers left; None if there is none."""
    deep, _ = shortest.found(answers)
    if deep <= many:
        return None
    if many == 0:
        return ("apart", *shortest.apart(answers))
    return "answers", tuple([
        None if number in told else resisting_at(shortest, answers, told, many, number)
        for number in range(len(answers[0]))
    ])


def resisting_at(shortest, answers, told, many, number):
    """The tuple (value, resistance) for a look: the first value for which there is one."""
    for value, part in parts_of(answers, number).items():
        behind = resisting(shortest, part, (*told, number), many - 1)
        if behind is not None:
            return value, behind
    return None


def resistance(field, many):
    """Any resistance that shows that no plan of so many looks decides a field; None if there is none."""
    if field.verdict != "open":
        return None
    return resisting(Shortest(field), tuple(field.answers()), (), many)


def is_apart(field, value, told):
    """Whether any value shows two answers with the values that are told and unlike verdicts."""
    if not isinstance(value, tuple) or len(value) != 3 or value[0] != "apart":
        return False
    both = value[1:]
    if not all([field.is_answer(answer) for answer in both]):
        return False
    if not all([answer[number] == told[number] for answer in both for number in told]):
        return False
    return field.is_kept(both[0]) != field.is_kept(both[1])


def is_resisting_at(field, many, entry, told, number):
    """Whether any entry of a resistance is right for the look with an index."""
    if number in told:
        return entry is None
    if not isinstance(entry, tuple) or len(entry) != 2 or not is_integer(entry[0]):
        return False
    return is_resisting(field, many - 1, entry[1], {**told, number: entry[0]})


def is_resisting(field, many, value, told):
    """Whether any value is a resistance of many beside the values that are told."""
    if many == 0:
        return is_apart(field, value, told)
    # This ends it, too, however great the number is.
    if len(told) == len(field.looks):
        return False
    if not isinstance(value, tuple) or len(value) != 2 or value[0] != "answers":
        return False
    entries = value[1]
    if not isinstance(entries, tuple) or len(entries) != len(field.looks):
        return False
    return all([
        is_resisting_at(field, many, entry, told, number)
        for number, entry in enumerate(entries)
    ])


def is_resistance(field, many, value):
    """Whether any value is a resistance of many of a field."""
    return is_resisting(field, many, value, {})


def tell_apart(verdicts, numbers):
    """Whether answers with unlike verdicts have unlike values at some of these looks."""
    told = {}
    for answer in verdicts:
        values = tuple([answer[number] for number in numbers])
        if told.setdefault(values, verdicts[answer]) != verdicts[answer]:
            return False
    return True


def are_enough(field, numbers):
    """Whether the looks with these indexes decide a field."""
    for number in numbers:
        check_index(number, len(field.looks))
    return tell_apart(verdicts_of(field), numbers)


def has_one_of(numbers, sets):
    """Whether all numbers of one of the sets are among some numbers."""
    return any([all([each in numbers for each in some]) for some in sets])


def at_once(field):
    """A list of all sets of looks that are enough, but without any one of them are not."""
    verdicts, found = verdicts_of(field), []
    numbers = list(range(len(field.looks)))
    for many in range(len(numbers) + 1):
        # A set with a smaller one in it that is enough has a look too many.
        sets = [some for some in picks(numbers, many) if not has_one_of(some, found)]
        found = [*found, *[some for some in sets if tell_apart(verdicts, some)]]
    return sorted(found)
