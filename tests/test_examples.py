"""The examples of the document, word for word, each section going on from the one before."""

import doctest
import re
import unittest

from onlylooks.changes import Change
from onlylooks.databases import Database
from onlylooks.demands import demands
from onlylooks.facts import Counted, Missing, Present
from onlylooks.fields import Field
from onlylooks.follows import follows, needless
from onlylooks.papers import is_paper
from onlylooks.possible import numbers, possible, wanted
from onlylooks.rules import Rules
from onlylooks.statements import Rule, Total
from onlylooks.tables import Schema, Table

NAMES = [Change, Counted, Database, Field, Missing, Present, Rule, Rules, Schema, Table, Total, demands,
         follows, is_paper, needless, numbers, possible, wanted]
SECTIONS = {
    "section 2": """
>>> item, shop = Table("item", "id", "at", ("kind", ["big", "small"])), Table("shop", "id")
>>> town = Schema(item, shop)
>>> house = Database(town)
>>> [house.put("item", ("b", "x", "big"), ("a", "x", "small")), house.put("shop", ("x",), ("x",)), house["item"]]
[2, 1, (('a', 'x', 'small'), ('b', 'x', 'big'))]
>>> [house.count("item", {"at": "x", "kind": ["big"]}), house.count("item", {}), item.is_row(("a", "x", "old")), len(house)]
[1, 2, False, 3]
""",
    "section 3": """
>>> [Rule.key("item", "id") == Rule("item", "item", [("id", "id")], 0, 1), Rule.reference("item", "shop", [("at", "id")]).most]
[True, None]
>>> few = Rule.at_most("shop", "item", [("id", "at")], 1, other_where={"kind": ["big"]})
>>> rules = Rules(town, Rule.key("item", "id"), Rule.reference("item", "shop", [("at", "id")]), few, Total("shop", 0, 2))
>>> [rules.keeps(house), few.counts(house), few.other_where, house.put("item", ("c", "y", "big"), ("d", "x", "big"))]
[True, {('x',): 1}, {'kind': ('big',)}, 2]
>>> rules.broken(house)
((1, ('y',)), (2, ('x',)))
""",
    "section 4": """
>>> rules = Rules(town, Rule.key("item", "id"), Rule.reference("item", "shop", [("at", "id")]), few, Total("shop", 0, 2))
>>> facts = [Present("item", ("a", "x", "big")), Missing("shop", ("x",))]
>>> [possible(rules, *facts), is_paper(rules, ("lack", 1, 0, (("closed", 5, 1),)), *facts), possible(rules, facts[0])["shop"]]
[None, True, (('x',),)]
>>> [len(possible(rules, Counted("item", {"kind": word}, 2, None))) for word in ("big", "small")]
[4, 3]
>>> [numbers(rules, "item", {"kind": "big"}, 4), wanted(rules, Counted("item", {"kind": "big"}, 4, None))]
[(0, 1, 2), 8]
>>> most_two = Total("item", 0, 2, where={"kind": ["big"]})
>>> [follows(rules, most_two), needless(rules + Rules(town, most_two)), len(follows(rules, Rule.at_most("shop", "item", [("id", "at")], 1)))]
[None, (4,), 3]
>>> box, ball = Table("box", "id", ("lid", ["open", "shut"])), Table("ball", "id", "box")
>>> some = [Rule.none("box", "ball", [("id", "box")], where={"lid": ["shut"]}), Rule.exactly("box", "ball", [("id", "box")], 2, where={"lid": ["open"]})]
>>> numbers(Rules(Schema(box, ball), *some), "ball", {"box": "x"}, 3, Counted("box", {"id": "x"}, 1, 1))
(0, 2)
""",
    "section 5": """
schema = Schema(Table("item", "name", "owner"), Table("owner", "name"))
rules = Rules(schema, Rule("item", "owner", [("owner", "name")], 1, 1), Rule("owner", "item", [("name", "owner")], 0, 2))
change = Change(schema, [("item", ("a", "x"))], [])
>>> [(each.rule_index, each.at, each.shift, each.other_shift) for each in demands(rules, change)]
[(0, ('x',), 1, 0), (1, ('x',), 0, 1)]
""",
    "section 6": """
field = Field(rules, change)
>>> [(each.table, each.words, each.most) for each in field.looks]
[('owner', {'name': 'x'}, 2), ('item', {'owner': 'x'}, 2)]
>>> [field.answers(), field.verdict, [field.is_kept(answer) for answer in field.answers()]]
[[(0, 0), (1, 0), (1, 1), (1, 2)], 'open', [False, True, True, False]]
""",
}


class ExamplesTest(unittest.TestCase):
    def test_all_sections(self):
        names = {each.__name__: each for each in NAMES}
        for section, text in SECTIONS.items():
            told = []
            # Lines that only assign stand in the document without a prompt.
            text = re.sub(r"^(?=[a-z]+ = )", ">>> ", text, flags=re.MULTILINE)
            test = doctest.DocTestParser().get_doctest(text, names, section, None, 0)
            result = doctest.DocTestRunner(verbose=False).run(test, out=told.append, clear_globs=False)
            names = test.globs
            self.assertEqual(result.failed, 0, "".join(told))
            self.assertGreater(result.attempted, 0)
