"""The field of a change [52] to [54]."""

import random
import unittest

from onlylooks.changes import Change
from onlylooks.databases import Database
from onlylooks.demands import demands
from onlylooks.errors import InvalidAnswer, NoAnswer, OtherSchema, OutOfRange, TooMany
from onlylooks.facts import Counted, Missing, Present
from onlylooks.fields import Field
from onlylooks.looks import looks
from onlylooks.rules import Rules
from onlylooks.statements import Rule, Total
from onlylooks.tables import Schema, Table
from tests.anything import any_values, changed, is_plain
from tests.towns import town
from tests.worlds import Maker, all_rows, databases

BIG = {"kind": ["big"]}
OWNED = Rule.reference("item", "shop", [("at", "id")])
FEW = Rule.at_most("shop", "item", [("id", "at")], 1, other_where=BIG)
ITEM, SHOP = ("item", ("a", "x", "big")), ("shop", ("x",))


def field_of(statements, put, taken=(), schema=None):
    schema = town() if schema is None else schema
    return Field(Rules(schema, *statements), Change(schema, put, taken))


def owners():
    """The example of section 6."""
    schema = Schema(Table("item", "name", "owner"), Table("owner", "name"))
    rules = [Rule("item", "owner", [("owner", "name")], 1, 1), Rule("owner", "item", [("name", "owner")], 0, 2)]
    return field_of(rules, [("item", ("a", "x"))], schema=schema)


def no_indexes(many):
    return [each for each in any_values() if type(each) is not int or not 0 <= each < many]


def no_answers(field):
    """Values that are no answer of a field, of any kind."""
    bent = []
    for answer in field.answers():
        bent.extend([list(answer), answer + (0,), answer + (None,), {answer: answer}])
        for at, value in enumerate(answer):
            others = [bool(value), None, str(value), -1, (value,), [value], {}, 10 ** 59, field.looks[at].most + 1]
            bent.extend([answer[:at] + (other,) + answer[at + 1:] for other in others])
            bent.append(answer[:at] + answer[at + 1:])
    return [each for each in [*any_values(), *bent]
            if not any(type(each) is tuple and list(map(repr, each)) == list(map(repr, answer)) for answer in field.answers())]


class AnswersTest(unittest.TestCase):
    """What answers there are [52]."""

    def test_the_example(self):
        field = owners()
        self.assertEqual(field.answers(), [(0, 0), (1, 0), (1, 1), (1, 2)])
        self.assertEqual(len(field), 4)

    def test_properties(self):
        rules, change = Rules(town(), OWNED, FEW), Change(town(), [ITEM], [("item", ("b", "x", "big"))])
        field = Field(rules, change)
        self.assertEqual((field.looks, field.demands), (looks(rules, change), demands(rules, change)))
        self.assertEqual((type(field.looks), type(field.demands)), (tuple, tuple))
        self.assertEqual(Field(change=change, rules=rules).answers(), field.answers())

    def test_a_change_without_looks(self):
        self.assertEqual(field_of([], []).answers(), [()])
        self.assertEqual(field_of([], [ITEM], [SHOP]).answers(), [()])
        self.assertEqual(field_of([OWNED], []).answers(), [()])
        self.assertEqual(field_of([Total("shop", 2, None), Total("shop", 0, 1)], []).answers(), [])
        never = field_of([Total("item", 0, 0)], [ITEM])
        self.assertEqual((never.looks, never.answers(), never.verdict), ((), [()], "never"))
        unfit = field_of([Total("item", 0, 0)], [], [ITEM])
        self.assertEqual(([look.most for look in unfit.looks], unfit.answers()), ([2], []))

    def test_changes_that_nothing_fits(self):
        key = Rule.key("item", "id")
        for statements, put, taken in [
            ([Total("item", 0, 0)], [], [ITEM]), ([key], [], [ITEM, ("item", ("a", "y", "big"))]),
            ([OWNED], [SHOP], [ITEM]), ([FEW], [], [SHOP, ITEM, ("item", ("b", "x", "big"))]),
            ([Total("shop", 2, None), Total("shop", 0, 1)], [ITEM], []),
        ]:
            field = field_of(statements, put, taken)
            self.assertEqual((field.answers(), len(field)), ([], 0))
            self.assertEqual(field.verdict, "unfit")
            self.assertEqual({field.standing(number) for number in range(len(field.demands))} or {"unfit"}, {"unfit"})

    def test_taken_rows_are_there_and_put_ones_are_not(self):
        self.assertEqual(field_of([OWNED], [], [ITEM]).answers(), [(1, 1), (2, 1)])
        self.assertEqual(field_of([OWNED], [], [SHOP]).answers(), [(0, 1), (1, 1)])
        self.assertEqual(field_of([OWNED], [SHOP]).answers(), [(0,)])
        full = Schema(Table("t", ("a", ["p", "q"])))
        self.assertEqual(field_of([Total("t", 0, 3)], [("t", ("p",))], schema=full).answers(), [(0,), (1,)])
        self.assertEqual(field_of([Total("t", 0, 3)], [], [("t", ("p",))], schema=full).answers(), [(1,), (2,)])

    def test_new_lists(self):
        field = owners()
        told = field.answers()
        self.assertTrue(is_plain(told))
        told.clear()
        self.assertEqual(len(field.answers()), 4)

    def test_iterating(self):
        for field in (owners(), field_of([], []), field_of([Total("item", 0, 0)], [], [ITEM])):
            for call in (list, iter, tuple, lambda told: [each for each in told], lambda told: (0, 0) in told):
                with self.assertRaises(TypeError):
                    call(field)

    def test_is_answer(self):
        for field in (owners(), field_of([], []), field_of([OWNED, FEW], [], [ITEM])):
            for answer in field.answers():
                self.assertIs(field.is_answer(answer), True)
            for value in no_answers(field):
                self.assertIs(field.is_answer(value), False, value)
        self.assertIs(owners().is_answer((0, 1)), False)
        self.assertIs(owners().is_answer((True, 1)), False)
        self.assertIs(owners().is_answer((1, False)), False)
        self.assertIs(owners().is_answer((1, 3)), False)
        self.assertIs(field_of([Total("item", 0, 0)], [], [ITEM]).is_answer((1,)), False)

    def test_all_answers_of_small_schemas(self):
        """Held against all databases of small schemas, with names that stand nowhere in the change."""
        tried, seen = 0, 0
        for number in range(400):
            maker = Maker(random.Random(number))
            schema = maker.schema()
            rules, change = maker.rules(schema), maker.change(schema, ["b", "c"])
            names = next((some for some in ("bcxy", "bcx", "bx") if len(all_rows(schema, some)) <= 9), None)
            if names is None:
                continue
            with self.subTest(number):
                try:
                    field = Field(rules, change)
                except TooMany:
                    continue
                met = {tuple(look(database) for look in field.looks): database
                       for database in databases(schema, names, 6)
                       if rules.keeps(database) and change.fits(database)}
                self.assertLessEqual(set(met), set(field.answers()))
                self.assertEqual(field.answers(), sorted(set(field.answers())))
                for answer in field.answers():
                    shown = field[answer]
                    self.assertTrue(rules.keeps(shown) and change.fits(shown))
                    self.assertEqual(tuple(look(shown) for look in field.looks), answer)
                    self.assertIs(rules.keeps(change.on(shown)), field.is_kept(answer))
                    for index, demand in enumerate(field.demands):
                        self.assertIs(field.holds(index, answer), demand(shown))
                for answer, database in met.items():
                    self.assertIs(field.is_kept(answer), rules.keeps(change.on(database)))
                tried, seen = tried + 1, seen + len(field)
        self.assertGreater(tried, 100)
        self.assertGreater(seen, 400)


class TooManyTest(unittest.TestCase):
    """By numbers alone, ahead of all answers [52]."""

    def big(self, limit, statements, put, taken=(), schema=None):
        with self.assertRaises(TooMany) as caught:
            field_of(statements, put, taken, schema)
        self.assertEqual(caught.exception.limit, limit)

    def schema(self):
        return Schema(*[Table(name, "id") for name in "abcd"])

    def marked(self):
        return Schema(Table("t", "id", ("k", ["p", "q", "r"])), Table("u", "id"))

    def test_200_answers_are_let(self):
        statements = [Total("t", 0, 2), Total("t", 0, 2, where={"k": ["p"]}), Total("t", 0, 1, where={"k": ["p", "q"]}), Total("u", 0, 1)]
        field = field_of(statements, [("u", ("x",))], [("t", ("a", "p"))], self.marked())
        self.assertEqual([look.most for look in field.looks], [4, 4, 3, 1])
        self.assertEqual(field.answers()[0], (1, 1, 1, 0))

    def test_more_than_200_are_not(self):
        statements = [Total("t", 0, 3), Total("t", 0, 2, where={"k": ["p"]}), Total("t", 0, 0, where={"k": ["q"]}), Total("u", 0, 1)]
        change = [("u", ("x",))], [("t", ("a", "p")), ("t", ("b", "q"))]
        # The mosts are 6, 4, 2 and 1: the product of 7, 5, 3 and 2 is 210.
        self.assertEqual([look.most for look in looks(Rules(self.marked(), *statements), Change(self.marked(), *change))], [6, 4, 2, 1])
        self.big(200, statements, *change, self.marked())
        self.assertEqual([look.most for look in field_of(statements[:3], *change, self.marked()).looks], [6, 4, 2])

    def test_more_than_200_comes_first(self):
        taken = [("a", (name,)) for name in "xyz"]
        wide = Schema(Table("a", "id", ("k", ["p", "q", "r"]), ("m", ["p", "q", "r"])))
        rows = [("a", (name, "p", "p")) for name in "xyz"]
        wheres = [None, {"k": ["p"]}, {"m": ["p"]}, {"k": ["p", "q"]}]
        self.big(200, [Total("a", 0, 3, where=where) for where in wheres], [], rows, wide)
        self.big(16, [Total("a", 0, 3, where=where) for where in wheres[:2]], [], rows, wide)
        self.assertEqual(len(field_of([Total("a", 0, 3)], [], taken, self.schema())), 1)

    def test_16_rows_are_let(self):
        """Taken rows, the most of each look and the least of each Total, with their reaches."""
        schema = self.schema()
        chain = [Rule("a", "b", [], 1, None), Rule("b", "c", [], 1, None)]
        x, y = ("a", ("x",)), ("a", ("y",))
        # b's look for a: 2 rows of reach 3; b: 1 row of reach 2; one row taken of reach 3.
        self.assertEqual([(look.table, look.most) for look in field_of(chain, [], [x], schema).looks], [("a", 2), ("b", 1)])
        # 3 and 6 and 2 are 11; the Totals want 5 or 6.
        some = [Total("c", 2, 3), Total("d", 2, None), Total("d", 1, None), Total("d", 2, None)]
        self.assertEqual(len(field_of([*chain, *some[:3]], [], [x], schema)), 2)
        self.big(16, [*chain, *some[:2], some[3]], [], [x], schema)
        # Two taken rows: 6 and 9 and 2 are 17.
        self.big(16, chain, [], [x, y], schema)
        self.big(16, [*chain, Total("a", 2, None)], [], [x], schema)

    def test_put_rows_want_nothing(self):
        schema = self.schema()
        chain = [Rule("a", "b", [], 2, None), Rule("b", "c", [], 2, None)]
        put = [("a", (name,)) for name in "xyz"]
        self.assertEqual([(look.table, look.most) for look in field_of(chain, put, [], schema).looks], [("b", 2)])
        self.big(16, chain, [], put[:2], schema)

    def test_by_numbers_alone(self):
        """Though there is no answer at all."""
        schema = self.schema()
        none = [Total("a", 2, None), Total("a", 0, 1)]
        chain = [Rule("a", "b", [], 2, None), Rule("b", "c", [], 2, None)]
        self.big(16, [*none, *chain], [("a", ("x",))], [], schema)
        self.assertEqual(field_of([*none, chain[0]], [("d", ("x",))], [], schema).answers(), [])

    def test_other_schema_comes_first(self):
        turned = Schema(town()["shop"], town()["item"])
        wide = [Total("item", 0, 3)] * 5
        for change in (Change(turned, [], []), Change(turned, [ITEM], [SHOP])):
            for statements in ([], [OWNED], wide):
                with self.assertRaises(OtherSchema):
                    Field(Rules(town(), *statements), change)


class FactsTest(unittest.TestCase):
    """The facts of an answer, and a database for it [53]."""

    def test_order_and_bounds(self):
        put, taken = [ITEM, ("shop", ("y",))], [("item", ("b", "x", "big"))]
        rules = [Rule.at_most("shop", "item", [("id", "at")], 2, other_where=BIG), Total("shop", 1, 2)]
        field = field_of(rules, put, taken)
        self.assertEqual([(look.table, look.words, look.where, look.most) for look in field.looks],
                         [("item", {"at": "y"}, {"kind": ("big",)}, 3), ("shop", {}, {}, 2)])
        first = [Present(*taken[0]), Missing(*put[0]), Missing(*put[1])]
        words = {"at": "y", "kind": ["big"]}
        self.assertEqual(field.facts((0, 0)), [*first, Counted("item", words, 0, 0), Counted("shop", {}, 0, 0)])
        self.assertEqual(field.facts((2, 1)), [*first, Counted("item", words, 2, 2), Counted("shop", {}, 1, 1)])
        self.assertEqual(field.facts((3, 2)), [*first, Counted("item", words, 3, None), Counted("shop", {}, 2, None)])
        self.assertEqual(field.facts((0, 2))[4], Counted("shop", {}, 2, None))

    def test_a_where_of_two_words(self):
        schema = Schema(Table("t", ("a", ["z", "y", "x"]), ("b", ["q", "p"]), "c"))
        field = field_of([Total("t", 0, 1, where={"b": ["q"], "a": ["z", "x"]})], [("t", ("x", "q", "n"))], schema=schema)
        self.assertEqual(field.facts((1,)), [Missing("t", ("x", "q", "n")), Counted("t", {"a": ["x", "z"], "b": ["q"]}, 1, None)])
        self.assertEqual(field.facts((0,))[1].words, {"a": ("x", "z"), "b": ("q",)})

    def test_without_looks(self):
        self.assertEqual(field_of([], [ITEM], [SHOP]).facts(()), [Present(*SHOP), Missing(*ITEM)])
        self.assertEqual(field_of([], []).facts(()), [])

    def test_answers_that_no_database_gives_have_facts_too(self):
        field = owners()
        self.assertFalse(field.is_answer((0, 2)))
        self.assertEqual(field.facts((0, 2))[1:], [Counted("owner", {"name": "x"}, 0, 0), Counted("item", {"owner": "x"}, 2, None)])

    def test_new_lists(self):
        field = owners()
        told = field.facts((0, 0))
        changed(told)
        self.assertEqual(len(field.facts((0, 0))), 3)
        self.assertEqual(type(field.facts((0, 0))), list)

    def test_invalid_answers(self):
        field = owners()
        wrong = [*any_values(), (0,), (0, 0, 0), (0, -1), (3, 0), (0, 3), (True, 0), (0, False), [0, 0], (0, None), ((0, 0),)]
        for value in wrong:
            with self.assertRaises(InvalidAnswer) as caught:
                field.facts(value)
            self.assertIs(caught.exception.value, value)
        for value in any_values():
            if value != ():
                with self.assertRaises(InvalidAnswer):
                    field_of([], []).facts(value)

    def test_facts_hold_exactly_where_the_answer_is_given(self):
        field = owners()
        schema = Schema(Table("item", "name", "owner"), Table("owner", "name"))
        change = Change(schema, [("item", ("a", "x"))], [])
        for database in databases(schema, "axb", 3):
            answer = tuple(look(database) for look in field.looks)
            for one in range(3):
                for other in range(3):
                    holds = all(fact(database) for fact in field.facts((one, other)))
                    self.assertEqual(holds, change.fits(database) and (one, other) == answer)

    def test_a_new_database_for_an_answer(self):
        field = owners()
        for answer in field.answers():
            shown = field[answer]
            self.assertIsInstance(shown, Database)
            self.assertTrue(all(fact(shown) for fact in field.facts(answer)))
            shown.put("item", ("q", "q"), ("a", "x"))
            self.assertTrue(all(fact(field[answer]) for fact in field.facts(answer)))

    def test_no_answer(self):
        for field in (owners(), field_of([], []), field_of([Total("item", 0, 0)], [], [ITEM])):
            for value in no_answers(field):
                for call in (lambda told: field[told], field.is_kept, lambda told: field.holds(0, told)):
                    if field.demands or call is field.is_kept:
                        with self.assertRaises(NoAnswer) as caught:
                            call(value)
                        self.assertIs(caught.exception.value, value)


class VerdictTest(unittest.TestCase):
    """What holds, and how it stands [54]."""

    def test_the_example(self):
        field = owners()
        self.assertEqual([field.is_kept(answer) for answer in field.answers()], [False, True, True, False])
        self.assertEqual([[field.holds(number, answer) for answer in field.answers()] for number in (0, 1)],
                         [[False, True, True, True], [True, True, True, False]])
        self.assertEqual((field.verdict, field.standing(0), field.standing(1)), ("open", "open", "open"))
        self.assertTrue(all(type(field.is_kept(answer)) is bool for answer in field.answers()))

    def test_always(self):
        field = field_of([OWNED], [SHOP])
        self.assertEqual((field.verdict, field.standing(0), field.is_kept((0,))), ("always", "sure", True))
        nothing = field_of([], [])
        self.assertEqual((nothing.verdict, nothing.is_kept(())), ("always", True))
        total = field_of([Total("shop", 0, 1), Total("shop", 0, 3)], [], [SHOP])
        self.assertEqual((total.verdict, total.standing(0), total.standing(1)), ("always", "sure", "sure"))

    def test_never(self):
        field = field_of([Total("shop", 1, 1)], [SHOP])
        self.assertEqual((field.verdict, field.standing(0), len(field)), ("never", "refused", 1))
        both = field_of([Total("shop", 0, 3), Total("item", 1, 1)], [SHOP, ITEM])
        self.assertEqual((both.verdict, both.standing(0), both.standing(1)), ("never", "open", "refused"))

    def test_all_open_and_never_kept(self):
        # There is one row of t, with one mark or with the other: two rows of u are too many for it.
        schema = Schema(Table("t", ("a", ["p", "q"])), Table("u", ("a", ["p", "q"])))
        apart = [Rule.at_most("t", "u", [], 1, where={"a": ["p"]}), Rule.at_most("t", "u", [], 1, where={"a": ["q"]}), Total("t", 1, 1)]
        field = field_of(apart, [("u", ("p",)), ("u", ("q",))], schema=schema)
        self.assertEqual(field.verdict, "never")
        self.assertEqual([field.standing(number) for number in range(2)], ["open", "open"])

    def test_unfit(self):
        field = field_of([Total("item", 0, 0), OWNED], [], [ITEM])
        self.assertEqual((field.verdict, field.standing(0), field.standing(1)), ("unfit", "unfit", "unfit"))

    def test_standing(self):
        field = field_of([OWNED, FEW, Total("item", 0, 3), Rule.none("shop", "shop", [("id", "id")])], [ITEM], [])
        self.assertEqual([field.standing(number) for number in range(3)], ["refused", "sure", "sure"])
        self.assertEqual(field.verdict, "never")

    def test_left_out_looks(self):
        """A demand that is told without one of its looks, or without both."""
        schema = Schema(Table("t", ("a", ["p", "q"]), "n"), Table("u", ("a", ["p", "q"]), "n"))
        rule = Rule("t", "u", [("a", "a")], 1, 1, where={"a": ["p"]}, other_where={"a": ["q"]})
        field = field_of([rule], [("t", ("p", "y"))], schema=schema)
        self.assertEqual((field.looks, field.answers(), field.holds(0, ()), field.verdict), ((), [()], False, "never"))
        field = field_of([rule], [("u", ("q", "y"))], schema=schema)
        self.assertEqual((field.answers(), field.verdict, field.standing(0)), ([(0,), (1,)], "always", "sure"))
        self.assertEqual(field_of([Total("t", 0, 1)], [("t", ("p", "x")), ("t", ("p", "y"))], schema=schema).verdict, "never")
        self.assertEqual(field_of([Total("t", 1, None)], [("t", ("p", "x"))], schema=schema).verdict, "always")

    def test_out_of_range(self):
        for field, many in ((owners(), 2), (field_of([], []), 0), (field_of([Total("item", 0, 0)], [], [ITEM]), 1)):
            for value in no_indexes(many):
                for call in (field.standing, lambda told: field.holds(told, None), lambda told: field.holds(told, (0, 0))):
                    with self.assertRaises(OutOfRange) as caught:
                        call(value)
                    self.assertIs(caught.exception.value, value)

    def test_no_answer_comes_behind(self):
        with self.assertRaises(NoAnswer) as caught:
            owners().holds(1, (0, 1))
        self.assertEqual(caught.exception.value, (0, 1))
        with self.assertRaises(NoAnswer):
            owners().is_kept((0, 1))
