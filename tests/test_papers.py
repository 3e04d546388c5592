"""Papers that show that nothing is possible [33]."""

import random
import unittest

from onlylooks.errors import TooMany
from onlylooks.facts import Counted, Long, Missing, Present, Short
from onlylooks.papers import is_paper, paper
from onlylooks.possible import possible, wanted
from onlylooks.rules import Rules
from onlylooks.statements import Rule, Total
from onlylooks.tables import Schema, Table
from tests.anything import any_values
from tests.checker import Checker
from tests.towns import town
from tests.worlds import Maker

BIG = {"kind": ["big"]}
OWNED = Rule.reference("item", "shop", [("at", "id")])
NO_ITEM = Rule.none("shop", "item", [("id", "at")])
A_ROW = ("a", "x", "big")


def closed(number, at=None):
    return ("closed", number, at)


def lack(number, at, *papers):
    return ("lack", number, at, papers)


def is_shaped(value):
    """Whether a value has the form of a paper, with exactly the kinds that [2] names."""
    if type(value) is not tuple or type(value[1]) is not int or type(value[2]) not in (int, type(None)):
        return False
    if value[0] == "closed":
        return len(value) == 3
    return value[0] == "lack" and len(value) == 4 and type(value[3]) is tuple and all(map(is_shaped, value[3]))


def bent(value):
    """Values that differ from a paper in one part."""
    kind, number, at, *rest = value
    yield from [list(value), value[:-1], value + (None,), (kind + "x",) + value[1:], (None,) + value[1:]]
    for other in (number + 1, number - 1, None, str(number), bool(number), (number,)):
        yield (kind, other, at, *rest)
    for other in ((0 if at is None else None), 17, -1, "a", (), [], {}, bool(at)):
        if other != at or type(other) is bool:
            yield (kind, number, other, *rest)
    if kind == "lack":
        papers = rest[0]
        yield (kind, number, at, list(papers))
        yield (kind, number, at, None)
        yield (kind, number, at, papers + (closed(0, 0),))
        yield ("closed", number, at)
        if papers:
            yield (kind, number, at, papers[:-1])
            yield (kind, number, at, papers[0])
        for index, each in enumerate(papers):
            for other in [None, [], *bent(each)]:
                yield (kind, number, at, papers[:index] + (other,) + papers[index + 1:])
    else:
        yield ("lack", number, at, ())


def bent_once(chance, value):
    """A paper with another number or row somewhere in it, still of the form of a paper."""
    if value[0] == "closed" or not value[3] or chance.random() < 0.3:
        kind, number, at, *rest = value
        if chance.random() < 0.5:
            return (kind, chance.randint(0, 6), at, *rest)
        return (kind, number, chance.choice([None, 0, 1, 2, 3]), *rest)
    papers = list(value[3])
    if chance.random() < 0.3:
        chance.shuffle(papers)
    else:
        index = chance.randrange(len(papers))
        papers[index] = bent_once(chance, papers[index])
    return (*value[:3], tuple(papers))


class PapersTest(unittest.TestCase):
    def right(self, statements, facts, *values, schema=None):
        """All values are papers, and nothing is possible; with a part bent, they are none."""
        rules = Rules(town() if schema is None else schema, *statements)
        self.assertIsNone(possible(rules, *facts))
        for value in values:
            self.assertIs(is_paper(rules, value, *facts), True)
            for other in bent(value):
                self.assertIs(is_paper(rules, other, *facts), False, other)
        if wanted(rules, *facts) <= 6:
            told = paper(rules, *facts)
            self.assertTrue(is_shaped(told), told)
            self.assertIs(is_paper(rules, told, *facts), True)

    def wrong(self, statements, facts, *values, schema=None):
        rules = Rules(town() if schema is None else schema, *statements)
        for value in values:
            self.assertIs(is_paper(rules, value, *facts), False, value)


class ClosingTest(PapersTest):
    """What closes a state at the beginning."""

    def test_a_missing_row(self):
        facts = [Present("shop", ("x",)), Present("item", A_ROW), Missing("item", A_ROW)]
        self.right([OWNED], facts, closed(3, 1))

    def test_two_missing_facts(self):
        facts = [Missing("item", A_ROW), Present("item", A_ROW), Missing("item", A_ROW)]
        self.right([], facts, closed(0, 0))
        self.assertTrue(is_paper(Rules(town()), closed(2, 0), *facts))
        self.wrong([], facts, closed(1, 0), closed(0), closed(2, 1))

    def test_rows_are_numbered_once_each(self):
        facts = [Present("shop", ("x",)), Present("item", A_ROW), Present("shop", ("x",)), Present("shop", ("y",)),
                 Missing("shop", ("y",))]
        self.right([], facts, closed(4, 2))

    def test_a_total(self):
        facts = [Present("item", A_ROW), Present("item", ("b", "x", "big"))]
        self.right([Total("shop", 0, 1), Total("item", 0, 1)], facts, closed(1))
        self.right([Total("item", 0, 1, where=BIG)], facts, closed(0))

    def test_a_counted(self):
        facts = [Present("item", A_ROW), Counted("item", {"at": "x", "kind": ["small", "big", "big"]}, 0, 0)]
        self.right([OWNED], facts, closed(2))

    def test_a_rule(self):
        facts = [Present("item", ("b", "y", "big")), Present("item", A_ROW), Present("shop", ("x",))]
        self.right([NO_ITEM], facts, closed(0, 2))
        self.right([Rule.none("item", "shop", [("at", "id")], where=BIG)], facts, closed(0, 1))

    def test_a_rule_of_a_table_with_itself(self):
        facts = [Present("item", ("x", "x", "big")), Present("item", ("a", "b", "big"))]
        self.right([Rule.none("item", "item", [("id", "at")])], facts, closed(0, 0))
        key = [Present("item", ("x", "x", "big")), Present("item", ("x", "b", "big"))]
        self.right([Rule.key("item", "id")], key, closed(0, 0), closed(0, 1))

    def test_a_rule_without_pairs(self):
        facts = [Present("item", A_ROW), Present("shop", ("z",))]
        self.right([Rule.none("item", "shop", [])], facts, closed(0, 0))

    def test_a_short_of_a_total(self):
        facts = [Short(Total("item", 1, None)), Present("item", A_ROW)]
        self.right([], facts, closed(0))
        two = [Short(Total("item", 2, None)), Present("item", A_ROW), Present("item", ("b", "x", "big"))]
        self.right([], two, closed(0))

    def test_what_closes_nothing(self):
        facts = [Present("item", A_ROW), Missing("item", ("a", "x", "small")), Long(Total("item", 0, 1)),
                 Counted("item", {"kind": "small"}, 0, 0), Short(Total("shop", 1, None)), Short(OWNED)]
        self.wrong([Total("item", 0, 1), NO_ITEM, OWNED], facts,
                   *[closed(number, at) for number in range(-1, 10) for at in (None, 0, 1, 2)])


class LackTest(PapersTest):
    """Lacks of all kinds, and their ways."""

    def test_the_example(self):
        few = Rule.at_most("shop", "item", [("id", "at")], 1, other_where=BIG)
        statements = [Rule.key("item", "id"), OWNED, few, Total("shop", 0, 2)]
        facts = [Present("item", A_ROW), Missing("shop", ("x",))]
        self.right(statements, facts, lack(1, 0, closed(5, 1)))

    def test_a_total(self):
        self.right([Total("shop", 1, None), Total("shop", 0, 0)], [], lack(0, None, closed(1)))
        self.right([Total("shop", 2, None), Total("shop", 0, 1)], [],
                   lack(0, None, lack(0, None, closed(1))))

    def test_a_counted(self):
        facts = [Counted("shop", {"id": "x"}, 1, None), Missing("shop", ("x",))]
        self.right([], facts, lack(0, None, closed(1, 0)))
        full = [Counted("shop", {"id": "x"}, 2, None)]
        self.right([], full, lack(0, None, lack(0, None)))

    def test_a_counted_with_choices_of_marks(self):
        facts = [Counted("item", {"id": "a", "at": "x"}, 1, None), Missing("item", ("a", "x", "small")),
                 Missing("item", A_ROW)]
        self.right([], facts, lack(0, None, closed(2, 0), closed(1, 0)))
        listed = [Counted("item", {"id": "a", "at": "x", "kind": ["small", "small"]}, 1, None),
                  Missing("item", ("a", "x", "small"))]
        self.right([], listed, lack(0, None, closed(1, 0)))
        both = [Counted("item", {"id": "a", "at": "x", "kind": ["small", "big", "small"]}, 1, None), *facts[1:]]
        self.right([], both, lack(0, None, closed(2, 0), closed(1, 0)))

    def test_marks_ascend_though_they_are_told_otherwise(self):
        schema = Schema(Table("t", ("a", ["q", "p"]), ("b", ["z", "y", "x"])))
        gone = [Missing("t", (one, two)) for one in "qp" for two in "zyx"]
        facts = [Counted("t", {}, 1, None), *gone]
        numbers = {("q", "z"): 1, ("q", "y"): 2, ("q", "x"): 3, ("p", "z"): 4, ("p", "y"): 5, ("p", "x"): 6}
        ways = [closed(numbers[one, two], 0) for one in "pq" for two in "xyz"]
        self.right([], facts, lack(0, None, *ways), schema=schema)
        self.wrong([], facts, lack(0, None, *reversed(ways)), schema=schema)

    def test_open_names_become_words(self):
        """Rows that are there come first, by their numbers; then new ones."""
        facts = [Counted("shop", {}, 1, 1), Counted("shop", {"id": "x"}, 1, None), Missing("shop", ("x",))]
        self.right([], facts, lack(1, None, closed(2, 0)),
                   lack(0, None, lack(1, None, closed(2, 0), closed(0))))
        self.wrong([], facts, lack(0, None, lack(1, None, closed(0), closed(2, 0))),
                   lack(0, None, lack(1, None, closed(2, 0))))

    def test_what_counts_already_is_no_way(self):
        facts = [Present("shop", ("x",)), Counted("shop", {}, 2, None), Counted("shop", {}, 0, 1)]
        self.right([], facts, lack(1, None, closed(2)))

    def test_a_rule(self):
        facts = [Present("item", A_ROW), Present("shop", ("y",)), Missing("shop", ("x",))]
        self.right([OWNED], facts, lack(0, 0, closed(3, 2)))

    def test_a_rule_where(self):
        rule = Rule("item", "shop", [("at", "id")], 1, 1, where=BIG)
        facts = [Present("item", ("a", "x", "small")), Present("item", ("b", "x", "big")), Missing("shop", ("x",))]
        self.right([rule], facts, lack(0, 1, closed(3, 2)))
        self.wrong([rule], facts, lack(0, 0, closed(3, 2)), lack(0, None, closed(3, 2)))

    def test_a_rule_with_two_rows(self):
        rule = Rule("item", "shop", [("at", "id")], 2, None)
        self.right([rule], [Present("item", A_ROW)], lack(0, 0, lack(0, 0)))
        without = Rule("item", "shop", [], 2, None)
        self.right([without, Total("shop", 0, 1)], [Present("item", A_ROW)], lack(0, 0, lack(0, 0, closed(1))))

    def test_an_open_name_of_x_meets_a_word(self):
        """The open name of the item becomes the word of the shop, wherever it stands."""
        facts = [Present("shop", ("x",)), Counted("item", {"id": "a", "kind": "big"}, 1, None),
                 Missing("item", A_ROW), Counted("shop", {}, 1, 1)]
        self.right([OWNED], facts, lack(2, None, lack(0, 1, closed(3, 1), closed(4))))

    def test_an_open_name_meets_an_open_name(self):
        small = [Counted("shop", {}, 1, 1), Counted("item", {}, 1, 1), Counted("item", {"id": "a", "kind": "big"}, 1, 1), Short(OWNED)]
        # The row to be chosen: the one that is there, then a new one with each mark.
        end = lack(4, None, lack(0, 1, closed(4, 1), closed(1)), closed(2), closed(2))
        self.right([OWNED], small, lack(1, None, lack(3, None, end)))

    def test_names_become_others_one_after_the_other(self):
        """The row of u has an open name and a word; x asks for one open name in both."""
        schema = Schema(Table("t", "a", "b"), Table("u", "a", "b"))
        rule = Rule.reference("t", "u", [("a", "a"), ("b", "b")])
        facts = [Counted("t", {}, 1, 1), Counted("u", {"b": "w"}, 1, None), Counted("u", {}, 1, 1),
                 Long(Rule.none("t", "t", [("a", "b")])), Missing("u", ("w", "w"))]
        met = lack(0, 0, closed(5, 1), closed(3))
        self.right([rule], facts, lack(1, None, lack(2, None, lack(4, None, lack(4, 0, met, closed(1)), closed(1)))), schema=schema)
        turned = [facts[0], Counted("u", {"a": "w"}, 1, None), *facts[2:]]
        self.right([rule], turned, lack(1, None, lack(2, None, lack(4, None, lack(4, 0, met, closed(1)), closed(1)))), schema=schema)

    def test_rows_to_be_chosen_for_several_facts(self):
        """Each fact has a row of its own, in whichever order they are chosen."""
        schema = Schema(Table("t", ("a", ["p", "q"])), Table("u", ("a", ["p", "q"])))
        rule = Rule("t", "u", [("a", "a")], 1, 1)
        facts = [Present("t", ("p",)), Present("t", ("q",)), Short(rule), Long(rule), Counted("u", {}, 2, 2)]
        # Whichever row has too many, u is not large enough for two rows with one mark.
        long = lack(3, None, lack(3, 0, lack(3, 0)), lack(3, 1, lack(3, 1)))
        self.right([], facts, long, lack(2, None, long, long), schema=schema)
        first = [lack(3, at, lack(3, at)) for at in (0, 1)]
        self.right([], facts, lack(3, None, lack(2, None, first[0], first[0]), lack(2, None, first[1], first[1])), schema=schema)
        three = [*facts[:2], Short(rule), Short(rule), Present("u", ("p",)), Present("u", ("q",))]
        each = lack(3, None, closed(3, 0), closed(3, 1))
        self.assertTrue(is_paper(Rules(schema), lack(2, None, closed(2, 0), closed(2, 1)), *three))
        self.assertTrue(is_paper(Rules(schema), lack(2, None, each, each), *three))
        self.assertTrue(is_paper(Rules(schema), lack(3, None, lack(2, None, closed(3, 0), closed(3, 0)), lack(2, None, closed(3, 1), closed(2, 1))), *three))
        self.assertFalse(is_paper(Rules(schema), lack(3, None, lack(2, None, closed(3, 1), closed(3, 0)), lack(2, None, closed(3, 1), closed(2, 1))), *three))

    def test_a_row_meets_itself(self):
        loop = Rule("item", "item", [("id", "at")], 0, 3)
        facts = [Counted("item", {"kind": "big"}, 1, 1), Counted("item", {"kind": "small"}, 0, 0),
                 Long(Rule.none("item", "item", [("id", "at")]))]
        self.wrong([loop], facts, lack(1, None, lack(3, None, lack(3, 0, closed(1)))))
        never = [Rule.none("item", "item", [("id", "at")]), Total("item", 0, 1)]
        # At the chosen row: it counts for itself if its names are made equal; new rows with both marks.
        end = lack(2, None, lack(2, 0, closed(0, 0), closed(1), closed(1)), closed(1), closed(1))
        both = lack(2, None, lack(2, 0, closed(0, 0), closed(1), closed(1)), lack(2, 0, closed(0, 0), closed(1), closed(1)))
        self.right(never, [Long(never[0])], both)
        self.right(never, [Long(never[0]), Counted("item", {"kind": "big"}, 1, None)],
                   lack(3, None, end))

    def test_crosswise_pairs(self):
        cross = Rule.none("item", "item", [("id", "at"), ("at", "id")])
        facts = [Present("item", A_ROW), Long(cross), Counted("item", {}, 1, 1)]
        # The chosen row has two unlike words: it is no way, and a new row is one too many.
        self.right([], facts, lack(1, None, lack(1, 0, closed(2), closed(2)), closed(2), closed(2)))

    def test_rows_that_become_equal_are_no_way(self):
        facts = [Present("shop", ("x",)), Counted("shop", {}, 2, 2), Counted("item", {"at": "x"}, 1, 1),
                 Missing("item", ("a", "x", "big"))]
        loose = [Present("shop", ("x",)), Counted("shop", {}, 2, 2), Counted("shop", {"id": "x"}, 2, None)]
        self.wrong([], facts, lack(1, None, lack(1, None)))
        # The open name may not become x: there is such a row. Nor is a new one with x let.
        self.right([], loose, lack(1, None, lack(2, None)), lack(2, None))

    def test_rows_of_open_names_that_become_equal_are_no_way(self):
        facts = [Counted("item", {"kind": "big"}, 2, 2), Counted("shop", {}, 2, 2), Long(Total("shop", 0, 2)),
                 Counted("item", {"kind": "small"}, 0, 0)]
        deep = lack(0, None, lack(0, None, lack(1, None, lack(1, None, lack(2, None, closed(1))))))
        self.assertIs(is_paper(Rules(town()), deep, *facts), True)
        one_each = Rule("shop", "item", [("id", "at")], 1, 1)
        # Two shops, one item: the open name of the second shop would become that of the first.
        lone = [Counted("shop", {}, 2, 2), Counted("item", {}, 1, 1)]
        item = lack(0, 0, lack(0, 1, closed(2), closed(2)), closed(2), closed(2))
        self.right([one_each], lone, lack(1, None, lack(1, None, lack(2, None, item, item))))

    def test_a_row_to_be_chosen(self):
        where = Rule("item", "shop", [("at", "id")], 2, 2, where={"kind": ["small"]})
        facts = [Present("item", A_ROW), Present("item", ("b", "x", "small")), Present("item", ("c", "x", "small")),
                 Long(where), Counted("item", {}, 3, 3), Counted("shop", {}, 0, 0)]
        full = lack(3, None, lack(3, 1, closed(5)), lack(3, 2, closed(5)), closed(4))
        self.right([], facts, full)
        self.wrong([], facts, lack(3, None, lack(3, 0, closed(5)), lack(3, 1, closed(5)), closed(4)))

    def test_a_row_to_be_chosen_may_not_be_there_twice(self):
        schema = Schema(Table("t", ("a", ["p", "q"])), Table("u", ("a", ["p", "q"])))
        rule = Rule("t", "u", [("a", "a")], 1, None)
        facts = [Present("t", ("q",)), Short(rule), Present("u", ("p",)), Present("u", ("q",))]
        # The row that is there, then a new one with p alone.
        self.right([], facts, lack(1, None, closed(1, 0), closed(1, 3)), schema=schema)

    def test_short_of_a_rule_closes_at_the_chosen_row_alone(self):
        schema = Schema(Table("t", ("a", ["p", "q"])), Table("u", ("a", ["p", "q"])))
        rule = Rule("t", "u", [("a", "a")], 1, None)
        facts = [Present("t", ("q",)), Short(rule), Present("u", ("q",)), Counted("t", {}, 1, 1)]
        self.right([], facts, lack(1, None, closed(1, 0), closed(3)), schema=schema)
        self.wrong([], facts, closed(1, 0), lack(1, None, closed(1), closed(3)), schema=schema)

    def test_long_of_a_total(self):
        self.right([Total("shop", 0, 1)], [Long(Total("shop", 0, 1))], lack(1, None, lack(1, None, closed(0))))

    def test_long_of_a_rule_without_pairs(self):
        rule = Rule.at_most("shop", "shop", [], 1)
        first = lack(1, None, lack(1, 0, closed(0, 0)))
        self.right([rule], [Long(rule)], first)
        self.wrong([rule], [Long(rule)], lack(1, None, lack(1, None, closed(0, 0))), lack(1, 0, closed(0, 0)))

    def test_pairs_of_marks(self):
        schema = Schema(Table("t", ("a", ["p", "q"]), "n"), Table("u", ("b", ["p", "q"]), ("c", ["x", "y", "z"])))
        rule = Rule("t", "u", [("a", "b")], 1, None, other_where={"c": ["z", "x"]})
        facts = [Present("t", ("q", "a")), Missing("u", ("q", "x")), Missing("u", ("q", "z"))]
        self.right([rule], facts, lack(0, 0, closed(2, 1), closed(3, 1)), schema=schema)
        clash = Rule("t", "u", [("a", "b")], 1, None, other_where={"b": ["p"]})
        self.right([clash], facts, lack(0, 0), schema=schema)

    def test_names_of_the_two_sides_at_once(self):
        schema = Schema(Table("t", "a", "b"), Table("u", "a", "b"))
        rule = Rule.reference("t", "u", [("a", "a"), ("b", "b")])
        facts = [Counted("t", {"a": "x"}, 1, None), Counted("u", {"b": "y"}, 1, None), Counted("u", {}, 1, 1),
                 Missing("t", ("x", "y"))]
        self.right([rule], facts, lack(1, None, lack(2, None, lack(0, 0, closed(4, 0), closed(3)))), schema=schema)

    def test_one_name_for_two(self):
        """x has one open name twice: the row it is to meet has two unlike words."""
        schema = Schema(Table("t", "a", "b"), Table("u", "a", "b"))
        same = Rule.none("t", "t", [("a", "b")])
        rule = Rule.reference("t", "u", [("a", "a"), ("b", "b")])
        facts = [Present("u", ("x", "y")), Counted("t", {}, 1, 1), Long(same), Counted("u", {}, 1, 1)]
        end = lack(4, None, lack(4, 1, lack(0, 1, closed(5)), closed(3)), closed(3))
        self.right([rule, Total("t", 0, 3)], facts, lack(3, None, end), schema=schema)


class ToldTest(PapersTest):
    """What paper and is_paper tell of all kinds of rules and facts."""

    def test_none_if_something_is_possible(self):
        for facts in ([], [Present("item", A_ROW)], [Counted("item", {}, 3, None)], [Short(OWNED)]):
            self.assertIsNone(paper(Rules(town(), Total("shop", 0, 2)), *facts))

    def test_too_many(self):
        six, seven = Counted("item", {}, 6, None), Counted("item", {}, 7, None)
        self.assertIsNone(paper(Rules(town()), six))
        self.assertIsNotNone(paper(Rules(town()), six, Counted("item", {}, 0, 0)))
        for facts in ([seven], [seven, Counted("item", {}, 0, 0)], [six, Present("item", A_ROW)]):
            with self.assertRaises(TooMany) as caught:
                paper(Rules(town()), *facts)
            self.assertEqual(caught.exception.limit, 6)
        with self.assertRaises(TooMany) as caught:
            paper(Rules(town(), OWNED), Counted("item", {}, 9, None))
        self.assertEqual(caught.exception.limit, 16)
        with self.assertRaises(TooMany) as caught:
            paper(Rules(town(), OWNED, Total("shop", 0, 0)), Counted("item", {}, 4, None))
        self.assertEqual(caught.exception.limit, 6)

    def test_papers_where_more_is_wanted(self):
        rules = Rules(town(), OWNED, Total("shop", 0, 0))
        for many in range(1, 9):
            value = lack(2, None, *[lack(0, 0, closed(1))] * 2)
            facts = [Counted("item", {}, many, None)]
            self.assertIs(is_paper(rules, value, *facts), True)
            self.assertIs(is_paper(rules, lack(2, None, lack(0, 0, closed(1))), *facts), False)
        deep = closed(0)
        for many in range(16):
            deep = lack(1, None, deep)
        facts = [Counted("shop", {}, 16, None)]
        self.assertIs(is_paper(Rules(town(), Total("shop", 0, 3)), lack(1, None, lack(1, None, lack(1, None, lack(1, None, closed(0))))), *facts), True)
        # A state may be closed and lack something: going on is right, too.
        self.assertIs(is_paper(Rules(town(), Total("shop", 0, 3)), deep, *facts), True)
        self.assertIs(is_paper(Rules(town(), Total("shop", 0, 0)), lack(1, None, closed(0)), *facts), True)
        full = [Counted("shop", {}, 16, None), Counted("shop", {}, 0, 15)]
        deep = closed(1)
        for many in range(16):
            deep = lack(0, None, deep)
        self.assertIs(is_paper(Rules(town()), deep, *full), True)
        self.assertIs(is_paper(Rules(town()), deep[3][0], *full), False)

    def test_any_value(self):
        rules, facts = Rules(town()), [Counted("shop", {}, 0, 0), Present("shop", ("x",))]
        self.assertIs(is_paper(rules, closed(0), *facts), True)
        deep = [None, (), closed(0)]
        for level in range(100):
            deep = [(deep[0],), [deep[1]], lack(0, None, deep[2])]
        many = {"a": deep[0]}
        for value in [*any_values(), *deep, many, "closed", ("closed",), ("closed", 0), ("lack",), ("lack", 0, None),
                      ("closed", {}, []), ("closed", 0, {}), ("closed", False, None), [*closed(0)], ("lack", 0, None, ()),
                      ("other", 0, None), (("closed",), 0, None), ({}, 0, None), (None, 0, None), ("closed", 0, None, None),
                      ("closed", 10 ** 59, None), ("closed", 0, 10 ** 59), ("lack", 0, None, None)]:
            self.assertIs(is_paper(rules, value, *facts), False, value)

    def test_values_nested_in_papers(self):
        deep = closed(0)
        for _ in range(100):
            deep = lack(2, None, deep)
        facts = [Counted("shop", {}, 0, 0), Counted("shop", {}, 1, None)]
        self.assertIs(is_paper(Rules(town()), lack(1, None, closed(0)), *facts), True)
        for value in [deep, lack(1, None, deep), lack(1, None, (deep,)), lack(1, None, [closed(0)]), lack(1, None, {})]:
            self.assertIs(is_paper(Rules(town()), value, *facts), False)

    def test_small_problems_of_all_kinds(self):
        """A paper is told exactly if nothing is possible, and it is one; with a part bent, it is none."""
        told = 0
        for number in range(600):
            maker = Maker(random.Random(number))
            schema = maker.schema(3, 3, 3)
            rules = maker.rules(schema, 5)
            facts = [maker.fact(schema, ["b", "c"]) for _ in range(maker.source.randint(0, 4))]
            if wanted(rules, *facts) > 6:
                continue
            with self.subTest(number):
                value = paper(rules, *facts)
                self.assertEqual(value is None, possible(rules, *facts) is not None)
                if value is not None:
                    told += 1
                    self.assertTrue(is_shaped(value))
                    self.assertIs(is_paper(rules, value, *facts), True)
                    self.assertIs(is_paper(rules, list(value), *facts), False)
                    self.assertIs(is_paper(rules, value[:1] + (True,) + value[2:], *facts), False)
        self.assertGreater(told, 100)

    def test_papers_by_the_words_of_the_document(self):
        """Papers through lacks of any kind, right and wrong ones, held against a check of the tests' own."""
        right, wrong = 0, 0
        for number in range(700):
            chance = random.Random(number)
            maker = Maker(chance)
            schema = maker.schema(3, 3, 3)
            rules = maker.rules(schema, 4)
            facts = [maker.fact(schema, ["b", "c"]) for _ in range(chance.randint(1, 4))]
            if wanted(rules, *facts) > 9:
                continue
            checker = Checker(rules, facts)
            values = [checker.any_paper(chance) for _ in range(3)]
            values.append(bent_once(chance, values[0]))
            with self.subTest(number):
                for value in values:
                    expected = checker.is_paper(value)
                    self.assertIs(is_paper(rules, value, *facts), expected, value)
                    right, wrong = right + expected, wrong + (not expected)
                told = paper(rules, *facts) if wanted(rules, *facts) <= 6 else None
                self.assertTrue(told is None or checker.is_paper(told))
        self.assertGreater(right, 500)
        self.assertGreater(wrong, 500)

    def test_nothing_is_a_paper_where_something_is_possible(self):
        rules = Rules(town(), OWNED)
        facts = [Present("item", A_ROW), Missing("shop", ("y",))]
        self.wrong([OWNED], facts, closed(0, 0), lack(0, 0), lack(0, 0, closed(0, 1)), lack(0, 0, closed(2, 1)))
        self.assertIsNone(paper(rules, *facts))

    def test_facts_and_rules_are_not_changed(self):
        words = {"kind": ["big", "big"]}
        fact = Counted("item", words, 1, None)
        rules = Rules(town(), OWNED, Total("shop", 0, 0))
        one, other = paper(rules, fact), paper(rules, fact)
        self.assertEqual((one, words), (other, {"kind": ["big", "big"]}))
        self.assertEqual(rules, Rules(town(), OWNED, Total("shop", 0, 0)))
