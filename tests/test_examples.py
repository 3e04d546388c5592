"""The examples of the document, word for word, each section going on from the one before."""

import doctest
import unittest

from onlylooks.databases import Database
from onlylooks.rules import Rules
from onlylooks.statements import Rule, Total
from onlylooks.tables import Schema, Table

SECTIONS = {
    "section 2": """
>>> item, shop = Table("item", "id", "at", ("kind", ["big", "small"])), Table("shop", "id")
>>> town = Schema(item, shop)
>>> house = Database(town)
>>> [house.put("item", ("b", "x", "big"), ("a", "x", "small")), house.put("shop", ("x",), ("x",)), house["item"]]
[2, 1, (('a', 'x', 'small'), ('b', 'x', 'big'))]
>>> [house.count("item", {"at": "x", "kind": ["big"]}), house.count("item", {}), item.is_row(("a", "x", "old")), len(house)]
[1, 2, False, 3]
""",
    "section 3": """
>>> [Rule.key("item", "id") == Rule("item", "item", [("id", "id")], 0, 1), Rule.reference("item", "shop", [("at", "id")]).most]
[True, None]
>>> few = Rule.at_most("shop", "item", [("id", "at")], 1, other_where={"kind": ["big"]})
>>> rules = Rules(town, Rule.key("item", "id"), Rule.reference("item", "shop", [("at", "id")]), few, Total("shop", 0, 2))
>>> [rules.keeps(house), few.counts(house), few.other_where, house.put("item", ("c", "y", "big"), ("d", "x", "big"))]
[True, {('x',): 1}, {'kind': ('big',)}, 2]
>>> rules.broken(house)
((1, ('y',)), (2, ('x',)))
""",
}


class ExamplesTest(unittest.TestCase):
    def test_all_sections(self):
        names = {"Database": Database, "Rule": Rule, "Rules": Rules, "Schema": Schema,
                 "Table": Table, "Total": Total}
        for section, text in SECTIONS.items():
            told = []
            test = doctest.DocTestParser().get_doctest(text, names, section, None, 0)
            result = doctest.DocTestRunner(verbose=False).run(test, out=told.append, clear_globs=False)
            names = test.globs
            self.assertEqual(result.failed, 0, "".join(told))
            self.assertGreater(result.attempted, 0)
