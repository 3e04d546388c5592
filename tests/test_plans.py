"""Plans [60] to [62] and sets of looks [64]."""

import unittest

from onlylooks.changes import Change
from onlylooks.errors import NeverFits, NoAnswer, NoBranch, NoLook, OutOfRange
from onlylooks.fields import Field
from onlylooks.plans import are_enough, at_once, decided, depth, is_plan, plan
from onlylooks.rules import Rules
from tests.anything import any_values, is_plain
from tests.bending import bent
from tests.samples import always, either, fields, never, owners, problems, stock, unfit, wide
from tests.towns import subsets, town

KEPT, BROKEN = ("kept",), ("broken",)
FIRST = ("look", 1, ((0, KEPT), (1, KEPT), (2, BROKEN)))
RIGHT = ("look", 0, ((0, BROKEN), (1, FIRST)))
EXTRA = ("look", 0, ((0, BROKEN), (1, FIRST), (2, KEPT)))
TWICE = ("look", 0, ((0, ("look", 0, ((0, BROKEN), (1, KEPT)))), (1, ("look", 0, ((1, FIRST),)))))
AHEAD = ("look", 1, ((0, ("look", 0, ((0, BROKEN), (1, KEPT)))), (1, KEPT), (2, BROKEN)))


def verdict(field, answer):
    """By the databases alone."""
    return "kept" if all(demand(field[answer]) for demand in field.demands) else "broken"


def verdicts(field):
    return {answer: verdict(field, answer) for answer in field.answers()}


def is_made_rightly(field, value):
    """Whether a value is a plan at all, by the words of the document."""
    if type(value) is not tuple or not value or type(value[0]) is not str:
        return False
    if value[0] != "look":
        return value in (KEPT, BROKEN)
    if len(value) != 3 or type(value[1]) is not int or not 0 <= value[1] < len(field.looks):
        return False
    if type(value[2]) is not tuple or not value[2]:
        return False
    last = -1
    for branch in value[2]:
        if type(branch) is not tuple or len(branch) != 2 or type(branch[0]) is not int:
            return False
        if not last < branch[0] <= field.looks[value[1]].most or not is_made_rightly(field, branch[1]):
            return False
        last = branch[0]
    return True


def led(answer, value):
    """The end to which an answer is led; None if it is stuck."""
    while value[0] == "look":
        value = dict(value[2]).get(answer[value[1]])
        if value is None:
            return None
    return value[0]


def own_is_plan(field, value):
    if not is_made_rightly(field, value):
        return False
    return all(led(answer, value) == told for answer, told in verdicts(field).items())


def least_depth(told):
    """The least depth of a plan for a dict from answers to verdicts, by trying each look first."""
    if len(set(told.values())) < 2:
        return 0
    best = None
    for number in range(len(next(iter(told)))):
        values = {answer[number] for answer in told}
        if len(values) > 1:
            deep = 1 + max(least_depth({answer: told[answer] for answer in told if answer[number] == value})
                           for value in values)
            best = deep if best is None else min(best, deep)
    return best


def ends(value, way=()):
    """The tuples (way of (look, value), end) of a plan."""
    if value[0] != "look":
        return [(way, value[0])]
    return [each for at, behind in value[2] for each in ends(behind, (*way, (value[1], at)))]


def chain(levels, end, look=0, at=0):
    """A plan with one branch at each of many looks."""
    for _ in range(levels):
        end = ("look", look, ((at, end),))
    return end


class PlanTest(unittest.TestCase):
    """[61]"""

    def test_the_example(self):
        field = Field(*owners())
        self.assertEqual(plan(field), RIGHT)
        self.assertEqual(depth(plan(field)), 2)

    def test_verdicts(self):
        self.assertEqual([plan(always()), plan(never())], [KEPT, BROKEN])
        self.assertEqual(plan(Field(Rules(town()), Change(town(), [], []))), KEPT)
        with self.assertRaises(NeverFits):
            plan(unfit())

    def test_held_against_an_own_search(self):
        seen = set()
        for number, rules, change, field in problems(range(1500)):
            if field.verdict == "unfit":
                with self.assertRaises(NeverFits):
                    plan(field)
                continue
            told, right = plan(field), verdicts(field)
            with self.subTest(number):
                self.assertTrue(own_is_plan(field, told))
                self.assertIs(is_plan(field, told), True)
                self.assertEqual(depth(told), least_depth(right))
                self.assertEqual(depth(told), max(len(way) for way, _ in ends(told)))
                for way, end in ends(told):
                    self.assertTrue([1 for answer in right if all(answer[look] == at for look, at in way)])
                    self.assertEqual(len({look for look, _ in way}), len(way))
                self.assertTrue(all(len(branches) > 1 for branches in self.all_branches(told)))
                self.assertEqual(told == KEPT, field.verdict == "always")
                self.assertEqual(told == BROKEN, field.verdict == "never")
                seen.add(depth(told))
        self.assertGreaterEqual(seen, {0, 1, 2, 3})

    def all_branches(self, told):
        if told[0] == "look":
            yield told[2]
            for _, behind in told[2]:
                yield from self.all_branches(behind)

    def test_the_same_for_fields_of_equal_arguments(self):
        for number, rules, change, field in problems(range(300)):
            if field.verdict != "unfit":
                again = Field(Rules(rules.schema, *rules.statements), Change(change.schema, list(change.put_rows), list(change.taken_rows)))
                self.assertEqual(plan(again), plan(field))
                self.assertEqual(plan(field=field), plan(field))

    def test_plain_tuples(self):
        for field in fields(range(200)):
            if field.verdict != "unfit":
                self.assertTrue(is_plain(plan(field)))

    def test_the_deepest(self):
        """Each look may break the rules alone."""
        for field in (stock((0, 1, 1, 0), (0, 1, 1, 0), (0, 1, 1, 0)), wide()):
            told = plan(field)
            self.assertEqual(depth(told), len(field.looks))
            self.assertEqual(least_depth(verdicts(field)), len(field.looks))
            self.assertTrue(own_is_plan(field, told))

    def test_kept_exactly_if_the_rules_hold_behind_the_change(self):
        """The plan of a change, asked in databases [4]."""
        for number, rules, change, field in problems(range(400)):
            for answer in field.answers():
                database = field[answer]
                told = decided(field, plan(field), lambda look: look(database))
                self.assertEqual(told == "kept", rules.keeps(change.on(database)))


class DepthTest(unittest.TestCase):
    """[61]"""

    def test_ends(self):
        self.assertEqual([depth(KEPT), depth(BROKEN)], [0, 0])

    def test_the_longest_way(self):
        self.assertEqual(depth(("look", 0, ((0, KEPT),))), 1)
        self.assertEqual(depth(FIRST), 1)
        self.assertEqual(depth(RIGHT), 2)
        self.assertEqual(depth(("look", 0, ((0, RIGHT), (1, FIRST), (2, BROKEN)))), 3)
        self.assertEqual(depth(plan=("look", 0, ((0, BROKEN), (1, FIRST), (2, RIGHT)))), 3)

    def test_a_look_twice_counts_twice(self):
        self.assertEqual(depth(chain(3, KEPT)), 3)

    def test_nested_a_hundred_deep(self):
        for levels in (99, 100, 120):
            self.assertEqual(depth(chain(levels, KEPT)), levels)
            self.assertEqual(depth(("look", 0, ((0, chain(levels, KEPT)), (1, BROKEN)))), levels + 1)


class IsPlanTest(unittest.TestCase):
    """[60], [61]"""

    def test_the_example(self):
        field = Field(*owners())
        self.assertEqual([is_plan(field, RIGHT), is_plan(field, FIRST)], [True, False])
        self.assertIs(is_plan(value=RIGHT, field=field), True)

    def test_values_of_any_kind(self):
        for field in (Field(*owners()), unfit(), never(), always()):
            for value in [*any_values(), "kept", ["kept"], ("Kept",), ("kept", "kept"), ("kept", None), {"kept": "kept"}, b"kept",
                          ("open",), ("look",), ("look", 0), ("look", 0, ()), ("look", 0, ((),)), ("look", 0, ((0,),)),
                          ("look", 0, ((0, None),)), ("look", 0, [(0, KEPT), (1, KEPT)]), ("look", 0, {0: KEPT}),
                          ("look", 0, (0, KEPT)), ("look", 0, ((0, KEPT), [1, KEPT])), ("look", None, ((0, KEPT),))]:
                self.assertIs(is_plan(field, value), False, value)

    def test_ends(self):
        self.assertEqual([is_plan(always(), KEPT), is_plan(always(), BROKEN)], [True, False])
        self.assertEqual([is_plan(never(), KEPT), is_plan(never(), BROKEN)], [False, True])
        self.assertEqual([is_plan(Field(*owners()), end) for end in (KEPT, BROKEN)], [False, False])

    def test_all_plans_decide_an_empty_field(self):
        field = unfit()
        for value in (KEPT, BROKEN, ("look", 0, ((0, KEPT),)), ("look", 0, ((1, KEPT), (2, BROKEN)))):
            self.assertIs(is_plan(field, value), True)
        for value in (("look", 1, ((0, KEPT),)), ("look", 0, ((0, ("open",)),)), ("look", 0, ((field.looks[0].most + 1, KEPT),))):
            self.assertIs(is_plan(field, value), False)

    def test_what_is_not_needed_may_be_there(self):
        field = Field(*owners())
        for value in (EXTRA, TWICE, AHEAD, ("look", 0, ((0, RIGHT), (1, RIGHT)))):
            self.assertIs(is_plan(field, value), True)
        # What is not needed has to be a plan all the same.
        for end in (("open",), None, ("look", 2, ((0, KEPT),)), ("look", 0, ((3, KEPT),)), ("look", 0, ())):
            self.assertIs(is_plan(field, ("look", 0, ((0, BROKEN), (1, FIRST), (2, end)))), False)

    def test_answers_that_are_stuck(self):
        field = Field(*owners())
        self.assertIs(is_plan(field, ("look", 0, ((1, FIRST),))), False)
        self.assertIs(is_plan(field, ("look", 0, ((0, BROKEN), (1, ("look", 1, ((0, KEPT), (1, KEPT))))))), False)
        self.assertIs(is_plan(field, ("look", 0, ((0, BROKEN), (2, FIRST)))), False)

    def test_values_that_do_not_ascend(self):
        field = Field(*owners())
        for branches in [((1, FIRST), (0, BROKEN)), ((0, BROKEN), (0, BROKEN), (1, FIRST)), ((0, BROKEN), (1, FIRST), (1, FIRST)),
                         ((0, BROKEN), (1, FIRST), (3, KEPT)), ((-1, KEPT), (0, BROKEN), (1, FIRST))]:
            self.assertIs(is_plan(field, ("look", 0, branches)), False)

    def test_a_bool_makes_no_plan(self):
        field = Field(*owners())
        for value in [("look", False, ((0, BROKEN), (1, FIRST))), ("look", 0, ((False, BROKEN), (1, FIRST))),
                      ("look", 0, ((0, BROKEN), (True, FIRST))), ("look", 0, ((0, BROKEN), (1, ("look", True, FIRST[2])))),
                      ("look", 0, ((0, BROKEN), (1, ("look", 1, ((False, KEPT), (1, KEPT), (2, BROKEN))))))]:
            self.assertIs(is_plan(field, value), False)

    def test_plans_with_one_thing_otherwise(self):
        seen = {True: 0, False: 0}
        field = Field(*owners())
        made = [(each, plan(each)) for each in fields(range(0, 1200, 4)) if each.verdict != "unfit" and len(each) < 30]
        made += [(field, RIGHT), (field, EXTRA), (field, TWICE), (field, AHEAD), (unfit(), ("look", 0, ((0, KEPT), (1, chain(2, BROKEN)))))]
        for field, right in made:
            for value in bent(right):
                expected = own_is_plan(field, value)
                self.assertIs(is_plan(field, value), expected, value)
                seen[expected] += 1
        self.assertGreater(min(seen.values()), 10)

    def test_nested_a_hundred_deep(self):
        field = Field(*owners())
        for levels in (97, 120):
            right = ("look", 0, ((0, chain(levels, BROKEN)), (1, FIRST)))
            self.assertIs(is_plan(field, right), True)
            for end in (KEPT, None, ("open",), [BROKEN], (BROKEN,), ("look", 0, ((True, BROKEN),))):
                self.assertIs(is_plan(field, ("look", 0, ((0, chain(levels, end)), (1, FIRST)))), False)
            self.assertIs(is_plan(field, chain(levels, RIGHT)), False)
            self.assertIs(is_plan(always(), chain(levels, KEPT)), False)
            # At a branch to which no answer is led, only the form counts.
            unused = ("look", 0, ((0, BROKEN), (1, FIRST), (2, chain(levels, KEPT, look=1, at=2))))
            self.assertIs(is_plan(field, unused), True)
            self.assertIs(is_plan(field, ("look", 0, ((0, BROKEN), (1, FIRST), (2, chain(levels, KEPT, look=2))))), False)


class DecidedTest(unittest.TestCase):
    """[62]"""

    def asked(self, field, told, values):
        """What decided tells, and the looks that it asks, if these values are returned one by one."""
        seen, left = [], list(values)
        def ask(look):
            seen.append(look)
            return left.pop(0)
        try:
            return decided(field, told, ask), seen
        finally:
            self.assertEqual(left, [])
            self.seen = seen

    def test_the_looks_on_the_way(self):
        field = Field(*owners())
        self.assertEqual(self.asked(field, RIGHT, [0]), ("broken", [field.looks[0]]))
        self.assertEqual(self.asked(field, RIGHT, [1, 0]), ("kept", list(field.looks)))
        self.assertEqual(self.asked(field, RIGHT, [1, 2]), ("broken", list(field.looks)))
        self.assertEqual(self.asked(field, KEPT, []), ("kept", []))
        self.assertEqual(self.asked(field, BROKEN, []), ("broken", []))
        self.assertEqual(decided(ask=lambda look: 1, plan=RIGHT, field=field), "kept")

    def test_a_look_twice_is_asked_twice(self):
        field = Field(*owners())
        self.assertEqual(self.asked(field, ("look", 1, ((0, RIGHT), (2, FIRST))), [2, 1]), ("kept", [field.looks[1]] * 2))

    def test_no_branch(self):
        field = Field(*owners())
        for value in [*any_values(), 2, 3, -1, True, False, "1", b"", 1.0]:
            if type(value) is int and value in (0, 1):
                continue
            with self.assertRaises(NoBranch) as caught:
                self.asked(field, RIGHT, [value])
            self.assertIs(caught.exception.value, value)
            self.assertEqual(len(self.seen), 1)
        for value in (3, True, False, None):
            with self.assertRaises(NoBranch) as caught:
                self.asked(field, RIGHT, [1, value])
            self.assertIs(caught.exception.value, value)

    def test_an_error_goes_on(self):
        field = Field(*owners())
        for error in (NoLook("x"), NoBranch(5), NoAnswer(0), KeyError("k"), RuntimeError()):
            seen = []
            def ask(look):
                seen.append(look)
                if len(seen) == 2:
                    raise error
                return 1
            with self.assertRaises(type(error)) as caught:
                decided(field, RIGHT, ask)
            self.assertIs(caught.exception, error)
            self.assertEqual(seen, list(field.looks))

    def test_all_answers(self):
        for field in fields(range(300)):
            if field.verdict != "unfit":
                for answer in field.answers():
                    asked = []
                    def ask(look):
                        asked.append(look)
                        return answer[field.looks.index(look)]
                    self.assertEqual(decided(field, plan(field), ask), verdict(field, answer))
                    self.assertLessEqual(len(asked), depth(plan(field)))


class EnoughTest(unittest.TestCase):
    """[64]"""

    def enough(self, field, numbers):
        told = verdicts(field)
        return all(told[one] == told[other] or any(one[number] != other[number] for number in numbers)
                   for one in told for other in told)

    def test_the_example(self):
        field = Field(*owners())
        self.assertEqual([are_enough(field, some) for some in ([], [0], [1], [0, 1], (1, 0), [0, 1, 0])],
                         [False, False, False, True, True, True])
        self.assertEqual(at_once(field), [(0, 1)])

    def test_held_against_all_sets_of_looks(self):
        seen = set()
        for field in [*fields(range(1500)), either()]:
            if len(field.looks) > 4 or len(field) > 40:
                continue
            right = [tuple(some) for some in subsets(range(len(field.looks))) if self.enough(field, some)]
            for some in subsets(range(len(field.looks))):
                self.assertIs(are_enough(field, some), tuple(some) in right)
                self.assertIs(are_enough(numbers=[*some[::-1], *some], field=field), tuple(some) in right)
            least = [some for some in right if not any(set(other) < set(some) for other in right)]
            told = at_once(field)
            self.assertEqual(told, sorted(least))
            self.assertTrue(is_plain(told))
            self.assertEqual(told == [()], field.verdict != "open")
            seen.add((len(told), max(map(len, told))))
        self.assertGreaterEqual(seen, {(1, 0), (1, 1), (1, 2), (1, 3), (2, 1)})

    def test_unless_the_verdict_is_open(self):
        for field in (unfit(), never(), always(), Field(Rules(town()), Change(town(), [], []))):
            self.assertEqual(at_once(field), [()])
            self.assertIs(are_enough(field, []), True)

    def test_several_sets(self):
        self.assertEqual(at_once(either()), [(0,), (1,)])
        self.assertEqual([are_enough(either(), some) for some in ([], [0], [1], [0, 1])], [False, True, True, True])
        self.assertEqual(at_once(wide()), [(0, 1, 2, 3, 4, 5)])

    def test_new_lists(self):
        field = Field(*owners())
        at_once(field).append(())
        self.assertEqual(at_once(field), [(0, 1)])

    def test_wrong_entries(self):
        for field in (Field(*owners()), unfit(), always()):
            many = len(field.looks)
            for value in [*any_values(), many, -1]:
                if type(value) is int and 0 <= value < many:
                    continue
                for numbers in ([value], [0, value, "x"], (0, 0, value)):
                    with self.assertRaises(OutOfRange) as caught:
                        are_enough(field, numbers)
                    self.assertIs(caught.exception.value, value)
        with self.assertRaises(OutOfRange):
            are_enough(never(), [0])
