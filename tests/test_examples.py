"""The examples of the document, word for word, each section going on from the one before."""

import doctest
import re
import unittest

from onlylooks import kinds
from onlylooks.changes import Change
from onlylooks.choosing import fewest_tests, is_test, least_test, needed
from onlylooks.databases import Database
from onlylooks.demands import demands
from onlylooks.desks import Desk
from onlylooks.facts import Counted, Missing, Present
from onlylooks.fields import Field
from onlylooks.follows import follows, needless
from onlylooks.kinds import Template, depths, names_of
from onlylooks.papers import is_paper
from onlylooks.plans import are_enough, at_once, depth, is_plan, is_resistance, plan, resistance
from onlylooks.possible import numbers, possible, wanted
from onlylooks.rules import Rules
from onlylooks.statements import Rule, Total
from onlylooks.tables import Schema, Table
from onlylooks.texts import read_rules, show_rows, show_rules

NAMES = [Change, Counted, Database, Desk, Field, Missing, Present, Rule, Rules, Schema, Table, Template, Total,
         are_enough, at_once, demands, depth, depths, fewest_tests, follows, is_paper, is_plan, is_resistance, is_test,
         least_test, names_of, needed, needless, numbers, plan, possible, read_rules, resistance, show_rows,
         show_rules, kinds.tests, wanted]
SECTIONS = {
    "section 2": """
>>> item, shop = Table("item", "id", "at", ("kind", ["big", "small"])), Table("shop", "id")
>>> town = Schema(item, shop)
>>> house = Database(town)
>>> [house.put("item", ("b", "x", "big"), ("a", "x", "small")), house.put("shop", ("x",), ("x",)), house["item"]]
[2, 1, (('a', 'x', 'small'), ('b', 'x', 'big'))]
>>> [house.count("item", {"at": "x", "kind": ["big"]}), house.count("item", {}), item.is_row(("a", "x", "old")), len(house)]
[1, 2, False, 3]
""",
    "section 3": """
>>> [Rule.key("item", "id") == Rule("item", "item", [("id", "id")], 0, 1), Rule.reference("item", "shop", [("at", "id")]).most]
[True, None]
>>> few = Rule.at_most("shop", "item", [("id", "at")], 1, other_where={"kind": ["big"]})
>>> rules = Rules(town, Rule.key("item", "id"), Rule.reference("item", "shop", [("at", "id")]), few, Total("shop", 0, 2))
>>> [rules.keeps(house), few.counts(house), few.other_where, house.put("item", ("c", "y", "big"), ("d", "x", "big"))]
[True, {('x',): 1}, {'kind': ('big',)}, 2]
>>> rules.broken(house)
((1, ('y',)), (2, ('x',)))
""",
    "section 4": """
>>> rules = Rules(town, Rule.key("item", "id"), Rule.reference("item", "shop", [("at", "id")]), few, Total("shop", 0, 2))
>>> facts = [Present("item", ("a", "x", "big")), Missing("shop", ("x",))]
>>> [possible(rules, *facts), is_paper(rules, ("lack", 1, 0, (("closed", 5, 1),)), *facts), possible(rules, facts[0])["shop"]]
[None, True, (('x',),)]
>>> [len(possible(rules, Counted("item", {"kind": word}, 2, None))) for word in ("big", "small")]
[4, 3]
>>> [numbers(rules, "item", {"kind": "big"}, 4), wanted(rules, Counted("item", {"kind": "big"}, 4, None))]
[(0, 1, 2), 8]
>>> most_two = Total("item", 0, 2, where={"kind": ["big"]})
>>> [follows(rules, most_two), needless(rules + Rules(town, most_two)), len(follows(rules, Rule.at_most("shop", "item", [("id", "at")], 1)))]
[None, (4,), 3]
>>> box, ball = Table("box", "id", ("lid", ["open", "shut"])), Table("ball", "id", "box")
>>> some = [Rule.none("box", "ball", [("id", "box")], where={"lid": ["shut"]}), Rule.exactly("box", "ball", [("id", "box")], 2, where={"lid": ["open"]})]
>>> numbers(Rules(Schema(box, ball), *some), "ball", {"box": "x"}, 3, Counted("box", {"id": "x"}, 1, 1))
(0, 2)
""",
    "section 5": """
schema = Schema(Table("item", "name", "owner"), Table("owner", "name"))
rules = Rules(schema, Rule("item", "owner", [("owner", "name")], 1, 1), Rule("owner", "item", [("name", "owner")], 0, 2))
change = Change(schema, [("item", ("a", "x"))], [])
>>> [(each.rule_index, each.at, each.shift, each.other_shift) for each in demands(rules, change)]
[(0, ('x',), 1, 0), (1, ('x',), 0, 1)]
""",
    "section 6": """
field = Field(rules, change)
>>> [(each.table, each.words, each.most) for each in field.looks]
[('owner', {'name': 'x'}, 2), ('item', {'owner': 'x'}, 2)]
>>> [field.answers(), field.verdict, [field.is_kept(answer) for answer in field.answers()]]
[[(0, 0), (1, 0), (1, 1), (1, 2)], 'open', [False, True, True, False]]
""",
    "section 7": """
>>> [least_test(field), needed(field), is_test(field, [0]), fewest_tests(field)]
[(0, 1), ((0, 0), (1, 2)), False, [(0, 1)]]
""",
    "section 8": """
>>> [depth(plan(field)), at_once(field), are_enough(field, [0]), resistance(field, 2)]
[2, [(0, 1)], False, None]
>>> first = ("look", 1, ((0, ("kept",)), (1, ("kept",)), (2, ("broken",))))
>>> [is_plan(field, ("look", 0, ((0, ("broken",)), (1, first)))), is_plan(field, first)]
[True, False]
>>> is_resistance(field, 1, ("answers", ((1, ("apart", (1, 0), (1, 2))), (0, ("apart", (0, 0), (1, 0))))))
True
""",
    "section 9": """
>>> kind = Template.of(change)
>>> [kind.put_rows, kind.cases(), names_of(change), depths(rules, kind)]
[(('item', (0, 1)),), [(0, 0), (0, 1)], ('a', 'x'), {(0, 0): 2, (0, 1): 2}]
>>> tests(rules, kind)[(0, 1)]
((0, (1,), 1, 0), (1, (1,), 0, 1))
""",
    "section 13": r"""
>>> desk = Desk(Rules(town, Rule.reference("item", "shop", [("at", "id")])), Database(town))
>>> [desk.say("do put item a x big"), desk.say("do put item a x big / put shop x"), desk.say("count item kind:big"), desk.say("rows shop")]
['refused 1', 'done 0', '1', 'x']
>>> [show_rows(house)[:15], read_rules(show_rules(rules)) == rules, show_rules(rules).split("\n")[3]]
[b'item a x small\n', True, 'rule item shop at=id from 1 to any']
""",
}
# What the names of a section were told to be in an earlier one: section 13 goes on with the rules of section 4.
AGAIN = {"section 13": "section 4"}


class ExamplesTest(unittest.TestCase):
    def test_all_sections(self):
        names, rules = {each.__name__: each for each in NAMES}, {}
        for section, text in SECTIONS.items():
            told = []
            if section in AGAIN:
                names["rules"] = rules[AGAIN[section]]
            # Lines that only assign stand in the document without a prompt.
            text = re.sub(r"^(?=[a-z]+ = )", ">>> ", text, flags=re.MULTILINE)
            test = doctest.DocTestParser().get_doctest(text, names, section, None, 0)
            result = doctest.DocTestRunner(verbose=False).run(test, out=told.append, clear_globs=False)
            names = test.globs
            rules[section] = names.get("rules")
            self.assertEqual(result.failed, 0, "".join(told))
            self.assertGreater(result.attempted, 0)
