"""Kinds of changes [70] to [73]."""

import random
import unittest
from itertools import product

from onlylooks import kinds
from onlylooks.changes import Change
from onlylooks.choosing import least_test
from onlylooks.errors import InvalidNames, InvalidTemplate, NoCase, OtherSchema, TooMany
from onlylooks.fields import Field
from onlylooks.kinds import Template, depths, names_of
from onlylooks.plans import depth, plan
from onlylooks.rules import Rules
from onlylooks.statements import Rule, Total
from onlylooks.tables import Schema, Table
from tests.anything import any_values, changed, is_plain
from tests.samples import owners
from tests.raising import raised
from tests.towns import town
from tests.worlds import Maker

BIG = {"kind": ["big"]}
OWNED = Rule.reference("item", "shop", [("at", "id")])
FEW = Rule.at_most("shop", "item", [("id", "at")], 1, other_where=BIG)
KEY = Rule.key("item", "id")
ITEM = ("item", (0, 1, "big"))


def case(names):
    return tuple(list(names).index(name) for name in names)


class TemplateTest(unittest.TestCase):
    """[70]"""

    def test_properties(self):
        made = Template([ITEM], [("shop", (2,)), ("shop", (0,))])
        self.assertEqual((made.put_rows, made.taken_rows, made.parameters), ((ITEM,), (("shop", (2,)), ("shop", (0,))), 3))
        self.assertEqual((type(made.put_rows), type(made.taken_rows), type(made.parameters)), (tuple, tuple, int))
        made = Template(taken=(), put=())
        self.assertEqual((made.put_rows, made.taken_rows, made.parameters), ((), (), 0))
        self.assertEqual(Template([("t", ("big",))], []).parameters, 0)

    def test_lists_are_copied(self):
        put, taken = [ITEM], [("shop", (0,))]
        made = Template(put, taken)
        changed([put, taken])
        self.assertEqual(made, Template([ITEM], [("shop", (0,))]))

    def test_any_entries_of_the_right_form(self):
        """Of whichever schema, perhaps equal ones, and more than three."""
        for put in ([("a", (0,))] * 5, [("zz", ("a", "b", "c"))], [("t", (1, 0)), ("t", (3, 2, 1))], [("item", (0, 0, 0))]):
            self.assertEqual(Template(put, []).put_rows, tuple(put))

    def test_no_list(self):
        for value in any_values():
            if type(value) in (list, tuple):
                continue
            for put, taken in [(value, []), ([], value), (value, [None]), ([None], value), (value, value)]:
                self.assertIsNone(raised(InvalidTemplate, Template, put, taken).index)

    def test_wrong_entries(self):
        wrong = [
            *any_values(), ("item",), ("item", (0,), 1), ["item", (0,)], ("item", [0]), ("item", 0), ("item", "a"), ("item", ()),
            ("item", (0, 1, 2, 3)), ("Item", (0,)), ("", (0,)), ("itemitemi", (0,)), (None, (0,)), (0, (0,)),
        ]
        wrong += [("item", (value,)) for value in any_values() if type(value) is not int or not 0 <= value <= 3]
        wrong += [("item", (0, value, "big")) for value in (True, False, None, 4, -1, (0,), "Big", "", [0])]
        for value in wrong:
            for put, taken, index in [([value], [], 0), ([], [value], 0), ([ITEM, value, value], [], 1), ([ITEM], [("shop", (0,)), value], 2),
                                      ([value], [None], 0), ([ITEM, ("shop", (1,))], [value, None], 2), ([("shop", (3,)), value], [], 1)]:
                self.assertEqual(raised(InvalidTemplate, Template, put, taken).index, index, value)

    def test_gaps(self):
        for cells in ([(1,)], [(3,)], [(0, 2)], [(0, 1, 3)], [(0,), (2,)], [(1,), (2,)], [(3, 2), (1,)], [("a", 1)]):
            put = [("t", each) for each in cells]
            self.assertIsNone(raised(InvalidTemplate, Template, put, []).index)
            self.assertIsNone(raised(InvalidTemplate, Template, [], put).index)
        self.assertEqual(Template([("t", (1,))], [("t", (0,))]).parameters, 2)
        self.assertEqual(Template([("t", (3, 2))], [("t", (1, 0))]).parameters, 4)

    def test_equal(self):
        made = [Template([ITEM], []), Template([], [ITEM]), Template([("item", (1, 0, "big"))], []), Template([], []),
                Template([ITEM, ("shop", (0,))], []), Template([("shop", (0,)), ITEM], []), Template([("item", (0, 1, "old"))], [])]
        for at, one in enumerate(made):
            for where, other in enumerate(made):
                again = Template(list(other.put_rows), list(other.taken_rows))
                self.assertIs(one == again, at == where)
                self.assertIs(one != again, at != where)
            for value in [*any_values(), ITEM, one.put_rows, (one.put_rows, one.taken_rows)]:
                self.assertIs(one == value, False)
                self.assertIs(one != value, True)


class CasesTest(unittest.TestCase):
    """[71]"""

    def own(self, made):
        """The cases of all names, as far as all entries stay different."""
        found = set()
        for names in product("abcd", repeat=made.parameters):
            rows = [(name, tuple(names[cell] if type(cell) is int else ("mark", cell) for cell in cells))
                    for name, cells in [*made.put_rows, *made.taken_rows]]
            if len(set(rows)) == len(rows):
                found.add(case(names))
        return sorted(found)

    def test_told_ones(self):
        self.assertEqual(Template([], []).cases(), [()])
        self.assertEqual(Template([("t", (0,))], []).cases(), [(0,)])
        self.assertEqual(Template([("t", (0, 1))], []).cases(), [(0, 0), (0, 1)])
        self.assertEqual(Template([("t", (0,)), ("t", (1,))], []).cases(), [(0, 1)])
        self.assertEqual(Template([("t", (0, 1, 2))], []).cases(), [(0, 0, 0), (0, 0, 2), (0, 1, 0), (0, 1, 1), (0, 1, 2)])
        self.assertEqual(Template([("t", (0,))], [("t", (0,))]).cases(), [])
        self.assertEqual(Template([("t", (0,)), ("u", (0,))], []).cases(), [(0,)])
        self.assertEqual(len(Template([("t", (0, 1)), ("t", (2, 3))], []).cases()), 13)
        self.assertEqual(len(Template([("t", (0, 1)), ("u", (2, 3))], []).cases()), 15)

    def test_all(self):
        chance = random.Random(7)
        for _ in range(300):
            entries = [(chance.choice("tu"), tuple(chance.choice([0, 1, 2, 3, "p", "a"]) for _ in range(chance.randint(1, 3))))
                       for _ in range(chance.randint(0, 4))]
            used = sorted({cell for _, cells in entries for cell in cells if type(cell) is int})
            entries = [(name, tuple(used.index(cell) if type(cell) is int else cell for cell in cells)) for name, cells in entries]
            cut = chance.randint(0, len(entries))
            made = Template(entries[:cut], entries[cut:])
            told = made.cases()
            self.assertEqual(told, self.own(made))
            self.assertTrue(is_plain(told))

    def test_new_lists(self):
        made = Template([ITEM], [])
        made.cases().clear()
        self.assertEqual(made.cases(), [(0, 0), (0, 1)])


class CaseOfTest(unittest.TestCase):
    """[71]"""

    def test_names(self):
        made = Template([("t", (0, 1, 2))], [("u", (3,))])
        for names in product(["a", "b", "item", "p"], repeat=4):
            self.assertEqual(made.case_of(list(names)), case(names))
            self.assertEqual(made.case_of(names=names), case(names))
        self.assertEqual(Template([], []).case_of([]), ())

    def test_invalid_names(self):
        made = Template([("t", (0,)), ("t", (1,))], [])
        for value in [*any_values(), ["a"], ["a", "b", "c"], ("a", "b", "c"), ["a", "B"], ["a", ""], ["a", None], "ab", {"a": 0, "b": 1},
                      [["a"], ["b"]], ["a", 1], [0, 1]]:
            if value in (("a", "b"), ["a", "b"]):
                continue
            self.assertIs(raised(InvalidNames, made.case_of, value).value, value)
            self.assertIs(raised(InvalidNames, made.filled, town(), value).value, value)

    def test_no_case(self):
        made = Template([("t", (0,)), ("t", (1,))], [])
        for names in (["a", "a"], ("b", "b")):
            self.assertEqual(raised(NoCase, made.case_of, names).case, (0, 0))
            self.assertEqual(raised(NoCase, made.filled, town(), names).case, (0, 0))
        self.assertEqual(raised(NoCase, Template([("t", (0, 1)), ("t", (1, 0))], [("u", (2,))]).case_of, ["c", "c", "c"]).case, (0, 0, 0))
        self.assertEqual(raised(NoCase, Template([("t", ("a",)), ("t", ("a",))], []).case_of, []).case, ())


class FilledTest(unittest.TestCase):
    """[71]"""

    def test_changes(self):
        made = Template([ITEM, ("shop", (1,))], [("item", (2, 1, "small"))])
        told = made.filled(town(), ["a", "x", "b"])
        self.assertEqual(told, Change(town(), [("item", ("a", "x", "big")), ("shop", ("x",))], [("item", ("b", "x", "small"))]))
        self.assertEqual(made.filled(names=("a", "a", "a"), schema=town()),
                         Change(town(), [("item", ("a", "a", "big")), ("shop", ("a",))], [("item", ("a", "a", "small"))]))
        # A name may be a word that stands in a mark column, too.
        self.assertEqual(Template([ITEM], []).filled(town(), ["big", "small"]), Change(town(), [("item", ("big", "small", "big"))], []))
        self.assertEqual(Template([], []).filled(town(), []), Change(town(), [], []))

    def test_entries_that_are_not_of_the_schema(self):
        for wrong in [("box", (0,)), ("item", (0,)), ("item", (0, 1)), ("shop", (0, 1)), ("shop", ("x",)), ("item", ("a", 0, "big")),
                      ("item", (0, 1, "old")), ("item", (0, 1, 1)), ("item", (0, 1, 0)), ("shop", ("big",))]:
            cells = [cell for cell in wrong[1] if type(cell) is int]
            names = ["a", "b"][:len(set(cells))]
            self.assertEqual(raised(InvalidTemplate, Template([wrong], []).filled, town(), names).index, 0)
            made = Template([("shop", (0,))], [("shop", (1,)), wrong, ("box", (1,))])
            self.assertEqual(raised(InvalidTemplate, made.filled, town(), ["a", "b"]).index, 2)

    def test_too_many(self):
        shops = [("shop", (number,)) for number in range(4)]
        self.assertEqual(len(Template(shops[:3], []).filled(town(), ["a", "b", "c"])), 3)
        self.assertEqual(raised(TooMany, Template(shops[:2], shops[2:]).filled, town(), ["a", "b", "c", "d"]).limit, 3)

    def test_errors_in_their_order(self):
        shops = [("shop", (number,)) for number in range(4)]
        made = Template([*shops, ("box", (0,))], [])
        raised(InvalidNames, made.filled, town(), ["a", "b", "c"])
        raised(NoCase, made.filled, town(), ["a", "b", "c", "c"])
        self.assertEqual(raised(InvalidTemplate, made.filled, town(), ["a", "b", "c", "d"]).index, 4)


class OfTest(unittest.TestCase):
    """[71]"""

    def test_the_order_of_names(self):
        change = Change(town(), [("item", ("b", "a", "big"))], [("shop", ("a",)), ("item", ("c", "b", "small"))])
        self.assertEqual(names_of(change), ("b", "a", "c"))
        made = Template.of(change)
        self.assertIsInstance(made, Template)
        self.assertEqual((made.put_rows, made.taken_rows), ((ITEM,), (("shop", (1,)), ("item", (2, 0, "small")))))
        self.assertEqual(Template.of(Change(town(), [], [("shop", ("z",))])).taken_rows, (("shop", (0,)),))
        self.assertEqual((Template.of(Change(town(), [], [])), names_of(Change(town(), [], []))), (Template([], []), ()))

    def test_words_in_mark_columns_are_no_names(self):
        schema = Schema(Table("t", ("k", ["p", "q"]), "n"))
        change = Change(schema, [("t", ("p", "p")), ("t", ("q", "p"))], [("t", ("p", "q"))])
        self.assertEqual(names_of(change=change), ("p", "q"))
        self.assertEqual(Template.of(change), Template([("t", ("p", 0)), ("t", ("q", 0))], [("t", ("p", 1))]))

    def test_there_and_back(self):
        seen = 0
        for number in range(400):
            maker = Maker(random.Random(number))
            schema = maker.schema(3, 3, 3)
            change = maker.change(schema, "bcdepq"[:maker.source.randint(1, 6)])
            names = names_of(change)
            if len(names) > 4:
                self.assertEqual(raised(TooMany, Template.of, change).limit, 4)
                continue
            made = Template.of(change)
            self.assertEqual(made.filled(change.schema, names), change)
            self.assertEqual(made.case_of(names), tuple(range(len(names))))
            others = ["x", "y", "z", "w"][:len(names)]
            self.assertEqual(Template.of(made.filled(schema, others)), made)
            self.assertEqual(names_of(made.filled(schema, others)), tuple(others))
            seen += 1
        self.assertGreater(seen, 200)

    def test_five_names(self):
        schema = Schema(Table("t", "a", "b", "c"))
        change = Change(schema, [("t", ("a", "b", "c"))], [("t", ("d", "e", "a")), ("t", ("b", "c", "c"))])
        self.assertEqual(names_of(change), ("a", "b", "c", "d", "e"))
        self.assertEqual(raised(TooMany, Template.of, change).limit, 4)
        self.assertEqual(Template.of(Change(schema, [("t", ("a", "b", "c"))], [("t", ("d", "a", "a"))])).parameters, 4)


class TestsTest(unittest.TestCase):
    """tests and depths [72], [73]"""

    def own(self, rules, template, words):
        """Both dicts, by the fields of changes that are filled in with words."""
        told, deep = {}, {}
        for each in template.cases():
            names = [words[least] for least in each]
            field = Field(rules, template.filled(rules.schema, names))
            if field.verdict == "unfit":
                continue
            deep[each] = depth(plan(field))
            test = least_test(field)
            told[each] = None if test is None else tuple(
                (demand.rule_index, self.with_parameters(rules, demand, words), demand.shift, demand.other_shift)
                for demand in (field.demands[number] for number in test))
        return told, deep

    def with_parameters(self, rules, demand, words):
        if isinstance(demand.statement, Total):
            return ()
        marks = rules.schema[demand.statement.table].marks
        return tuple(word if first in marks else words.index(word) for (first, _), word in zip(demand.statement.pairs, demand.at))

    def test_the_example(self):
        rules, change = owners()
        kind = Template.of(change)
        self.assertEqual(depths(rules, kind), {(0, 0): 2, (0, 1): 2})
        self.assertEqual(kinds.tests(template=kind, rules=rules)[(0, 1)], ((0, (1,), 1, 0), (1, (1,), 0, 1)))
        self.assertEqual(kinds.tests(rules, kind)[(0, 0)], ((0, (0,), 1, 0), (1, (0,), 0, 1)))

    def test_where_there_is_no_case(self):
        rules, _ = owners()
        for made in (Template([("t", (0,))] * 2, []), Template([("box", (0,))], [("box", (0,))])):
            self.assertEqual((kinds.tests(rules, made), depths(rules, made)), ({}, {}))

    def test_unfit_cases_are_left_out(self):
        rules = Rules(town(), KEY)
        # Two rows with one id cannot both be there.
        made = Template([], [("item", (0, 1, "big")), ("item", (2, 3, "small"))])
        told = kinds.tests(rules, made)
        self.assertEqual(list(told), list(depths(rules, made)))
        self.assertEqual([each for each in made.cases() if each not in told], [each for each in made.cases() if each[2] == 0])
        self.assertEqual(kinds.tests(Rules(town(), Total("item", 0, 0)), Template([], [ITEM])), {})
        self.assertEqual(depths(Rules(town(), Total("item", 0, 0)), Template([], [ITEM])), {})

    def test_never_and_always(self):
        never, always = Rules(town(), Total("item", 0, 0)), Rules(town(), Total("item", 0, 3))
        self.assertEqual(kinds.tests(never, Template([ITEM], [])), {(0, 0): None, (0, 1): None})
        self.assertEqual(depths(never, Template([ITEM], [])), {(0, 0): 0, (0, 1): 0})
        self.assertEqual(kinds.tests(always, Template([], [ITEM])), {(0, 0): (), (0, 1): ()})

    def test_names_that_are_equal_matter(self):
        # Two items of one shop are told by one look at it; two of two shops by two.
        made = Template([("item", (0, 1, "big")), ("item", (2, 3, "small"))], [])
        told = depths(Rules(town(), OWNED), made)
        self.assertEqual({each: told[each] for each in [(0, 1, 2, 1), (0, 1, 2, 3), (0, 0, 2, 0)]},
                         {(0, 1, 2, 1): 1, (0, 1, 2, 3): 2, (0, 0, 2, 0): 1})
        self.assertEqual(kinds.tests(Rules(town(), OWNED), made)[(0, 1, 1, 0)], ((0, (1,), 1, 0), (0, (0,), 1, 0)))

    def test_marks_stay_words(self):
        schema = Schema(Table("t", "n", ("k", ["a", "b"])), Table("u", "n", ("m", ["a", "b"])))
        rules = Rules(schema, Rule.reference("t", "u", [("n", "n"), ("k", "m")]))
        made = Template([("t", (0, "a"))], [])
        self.assertEqual(kinds.tests(rules, made), {(0,): ((0, (0, "a"), 1, 0),)})

    def test_all_kinds_of_rules(self):
        seen = cases = 0
        for number in range(700):
            maker = Maker(random.Random(number))
            schema = maker.schema(3, 2, 3)
            rules = maker.rules(schema, 5)
            change = maker.change(schema, "bcd"[:maker.source.randint(1, 3)])
            made = Template.of(change)
            try:
                told, deep = self.own(rules, made, ["p", "q", "shop", "zz"])
            except TooMany as error:
                self.assertEqual(raised(TooMany, kinds.tests, rules, made).limit, error.limit)
                self.assertEqual(raised(TooMany, depths, rules, made).limit, error.limit)
                continue
            self.assertEqual(kinds.tests(rules, made), told)
            self.assertEqual(depths(rules, made), deep)
            self.assertEqual(list(kinds.tests(rules, made)), sorted(told))
            self.assertTrue(is_plain(kinds.tests(rules, made)) and is_plain(depths(rules, made)))
            seen, cases = seen + 1, cases + len(told)
        self.assertGreater(seen, 300)
        self.assertGreater(cases, 600)

    def test_the_same_for_all_names(self):
        """[73]"""
        for number in range(200):
            maker = Maker(random.Random(number))
            schema = maker.schema(2, 2, 3)
            rules, change = maker.rules(schema, 4), maker.change(schema, "bc")
            made, names = Template.of(change), names_of(change)
            others = maker.source.sample(["a", "p", "q", "zz", "b", "c"], len(names))
            try:
                one, other = Field(rules, change), Field(rules, made.filled(schema, others))
            except TooMany:
                continue
            self.assertEqual((one.answers(), one.verdict), (other.answers(), other.verdict))
            self.assertEqual(least_test(one), least_test(other))
            if one.verdict != "unfit":
                self.assertEqual(plan(one), plan(other))

    def test_errors(self):
        rules = Rules(town(), OWNED)
        for call in (kinds.tests, depths):
            self.assertEqual(raised(InvalidTemplate, call, rules, Template([ITEM, ("box", (0,))], [])).index, 1)
            self.assertEqual(raised(TooMany, call, rules, Template([("shop", (number,)) for number in range(4)], [])).limit, 3)
            raised(InvalidTemplate, call, rules, Template([("shop", (0, 1))], []))

    def test_errors_of_the_first_case_that_has_some(self):
        # Taking two items asks for more rows if they are of two shops: only those cases are too many.
        schema = Schema(Table("a", "id", "b"), Table("b", "id"), Table("c", "id"))
        rules = Rules(schema, Rule("a", "b", [("b", "id")], 1, 1), Rule("b", "a", [("id", "b")], 0, 3), Rule("b", "c", [], 2, None))
        for made in (Template([("a", (0, 1))], [("b", (2,))]), Template([], [("b", (0,)), ("b", (1,)), ("a", (0, 1))])):
            errors = []
            for each in made.cases():
                try:
                    Field(rules, made.filled(schema, ["wxyz"[least] for least in each]))
                except TooMany as error:
                    errors.append(error.limit)
            self.assertTrue(errors)
            for call in (kinds.tests, depths):
                self.assertEqual(raised(TooMany, call, rules, made).limit, errors[0])

    def test_new_dicts(self):
        rules, change = owners()
        kind = Template.of(change)
        changed(kinds.tests(rules, kind))
        changed(depths(rules, kind))
        self.assertEqual((len(kinds.tests(rules, kind)), depths(rules, kind)), (2, {(0, 0): 2, (0, 1): 2}))

    def test_other_schemas(self):
        rules, change = owners()
        self.assertEqual(raised(InvalidTemplate, depths, Rules(town()), Template.of(change)).index, 0)
        raised(OtherSchema, Field, Rules(town()), change)
