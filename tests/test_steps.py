"""What searches keep for one another: it makes no difference to what they tell."""

import random
import unittest

from onlylooks import answers
from onlylooks.asks import Problem
from onlylooks.errors import TooMany
from onlylooks.facts import Counted
from onlylooks.fields import facts_of_change
from onlylooks.looks import looks
from onlylooks.possible import any_database, check_wanted
from onlylooks.searches import Search
from onlylooks.states import counts, first_state, has_gone_row, is_closed, is_passed, lacks, ways
from onlylooks.steps import MOST_STEPS, first_ways, step_of, ways_of
from tests import samples
from tests.worlds import Maker


def problems(numbers):
    """The problems that numbers lead to."""
    for number in numbers:
        maker = Maker(random.Random(number))
        schema = maker.schema(3, 3, 3)
        rules, facts = maker.rules(schema, 4), [maker.fact(schema, "ab") for _ in range(number % 4)]
        try:
            check_wanted(rules, facts)
        except TooMany:
            continue
        yield Problem(rules, facts)


def states_of(problem, many):
    """The first states to which ways lead from the beginning, those that are closed left out."""
    waiting, found = [first_state(problem)], []
    while waiting and len(found) < many:
        state = waiting.pop(0)
        if state not in found and not is_closed(problem, state):
            found.append(state)
            for ask, at, _ in lacks(problem, state):
                waiting.extend(ways(problem, state, ask, at))
    return found


class WaysTest(unittest.TestCase):
    def test_what_closes_a_state_is_told_by_what_a_way_changes(self):
        closed = 0
        for problem in problems(range(400)):
            for state in states_of(problem, 25):
                step = step_of(problem, state)
                for ask, at, _ in lacks(problem, state):
                    led = [each for each in ways(problem, state, ask, at) if not has_gone_row(problem, each)]
                    found = ways_of(problem, step, ask, at)
                    self.assertEqual([way.state for way in found], led)
                    for way in found:
                        self.assertEqual(is_passed(way.told), is_closed(problem, way.state))
                        closed += is_passed(way.told)
        self.assertGreater(closed, 500)

    def test_counts_of_ways_are_those_of_the_state(self):
        for problem in problems(range(200)):
            for state in states_of(problem, 10):
                for ask, at, _ in lacks(problem, state):
                    for way in ways_of(problem, step_of(problem, state), ask, at):
                        every = [(told.number, many) for told, _, many in counts(problem, way.state)]
                        self.assertLessEqual({(told.number, many) for told, many in way.told}, set(every))

    def test_the_beginning(self):
        gone = passed = 0
        for problem in problems(range(1500)):
            state, found = first_state(problem), first_ways(problem)
            self.assertIs(first_ways(problem), found)
            self.assertEqual([way.state for way in found], [] if has_gone_row(problem, state) else [state])
            gone += not found
            for way in found:
                self.assertEqual(is_passed(way.told), is_closed(problem, state))
                passed += is_passed(way.told)
        self.assertGreater(min(gone, passed), 5)


class KeptStepsTest(unittest.TestCase):
    def test_one_alone_is_kept_for_one_search(self):
        for problem in problems(range(50)):
            for state in states_of(problem, 10):
                self.assertIs(step_of(problem, state), step_of(problem, state))
                self.assertEqual(list(problem.kept_steps), [state])

    def test_as_many_as_there_is_room_for(self):
        for problem in problems(range(100)):
            problem.most_steps, states = 3, states_of(problem, 10)
            if len(states) >= 4:
                first = [step_of(problem, state) for state in states[:3]]
                self.assertEqual([step_of(problem, state) for state in states[:3]], first)
                step_of(problem, states[3])
                self.assertEqual(list(problem.kept_steps), [states[3]])

    def test_searches_with_other_bounds_tell_what_they_tell_alone(self):
        """Bounds of one fact are changed to and fro: the state at the end is that of a problem of its own."""
        ended = 0
        for number in range(150):
            maker = Maker(random.Random(number))
            schema = maker.schema(3, 2, 3)
            rules, change = maker.rules(schema, 4), maker.change(schema, "bc")
            told, facts = looks(rules, change), facts_of_change(change)
            counted = [(look.table, answers.words_of_look(look)) for look in told]
            problem = Problem(rules, [*facts, *[Counted(*each, 0, None) for each in counted]])
            problem.most_steps = MOST_STEPS
            asks = problem.asks[len(problem.asks) - len(told):]
            for _ in range(8):
                bounds = [maker.source.choice([(0, None), (0, 0), (1, 1), (1, None), (2, 2)]) for _ in told]
                for ask, both in zip(asks, bounds):
                    ask.low, ask.high = both
                own = Problem(rules, [*facts, *[Counted(*each, *both) for each, both in zip(counted, bounds)]])
                for is_for_fewest in (False, True):
                    state = Search(problem, is_for_fewest).end()
                    self.assertEqual(state, Search(own, is_for_fewest).end())
                    ended += state is not None
        self.assertGreater(ended, 500)


class AnswersTest(unittest.TestCase):
    def test_each_answer_and_its_database_are_those_of_searches_of_their_own(self):
        """From beginning to beginning: the database of one is that of the next as long as it answers so."""
        many = 0
        for _, rules, change, field in samples.problems(range(350)):
            for answer in field.answers():
                many += 1
                database = any_database(rules, facts_of_change(change))
                for at in range(1, len(answer) + 1):
                    if tuple(look(database) for look in field.looks[:at]) != answer[:at]:
                        facts = field.facts(answer)
                        database = any_database(rules, facts[:len(change) + at])
                self.assertEqual(field[answer], database)
        self.assertGreater(many, 500)

    def test_with_hardly_any_room(self):
        expected = list(samples.fields(range(100)))
        kept, answers.MOST_STEPS = answers.MOST_STEPS, 2
        try:
            for one, other in zip(expected, samples.fields(range(100)), strict=True):
                self.assertEqual(one.answers(), other.answers())
                self.assertEqual([one[answer] for answer in one.answers()], [other[answer] for answer in one.answers()])
        finally:
            answers.MOST_STEPS = kept


if __name__ == "__main__":
    unittest.main()
