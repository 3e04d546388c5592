"""What the part "The interface" asks for: names, files, arguments, and methods of their own."""

import importlib
import inspect
import unittest

from onlylooks.databases import Database

FILES = {
    "tables": ["Table", "Schema"],
    "databases": ["Database"],
    "statements": ["Statement", "Rule", "Total"],
    "rules": ["Rules"],
    "facts": ["Fact", "Present", "Missing", "Counted", "Short", "Long"],
    "changes": ["Change"],
    "demands": ["Demand"],
    "looks": ["Look"],
    "fields": ["Field"],
    "kinds": ["Template"],
    "keeper": ["Keeper", "CountingKeeper", "House", "CountingHouse"],
    "desks": ["Desk"],
}
FUNCTIONS = {
    "possible": {"possible": "rules, *facts", "wanted": "rules, *facts",
                 "numbers": "rules, table, words, limit, *facts"},
    "papers": {"paper": "rules, *facts", "is_paper": "rules, value, *facts"},
    "follows": {"follows": "rules, statement", "covers": "rules, others", "needless": "rules",
                "core": "rules", "barren": "rules"},
    "demands": {"demands": "rules, change"},
    "looks": {"looks": "rules, change"},
    "choosing": {"is_test": "field, numbers", "least_test": "field", "needed": "field",
                 "leads": "field, one, other", "fewest_tests": "field"},
    "plans": {"is_plan": "field, value", "depth": "plan", "plan": "field", "decided": "field, plan, ask",
              "resistance": "field, many", "is_resistance": "field, many, value",
              "are_enough": "field, numbers", "at_once": "field"},
    "kinds": {"names_of": "change", "tests": "rules, template", "depths": "rules, template"},
    "couples": {"together": "one, other", "spoils": "rules, one, other", "helps": "rules, one, other",
                "in_any_order": "rules, one, other"},
    "mending": {"mended": "rules, database, change", "must_go": "rules, database, rows"},
    "texts": {"show_rules": "rules", "read_rules": "text", "show_rows": "database",
              "read_rows": "schema, data"},
}
STATEMENT = {"__call__": "database", "counts": "database", "broken": "database", "__eq__": "other"}
ROW_FACT = {"__init__": "table, row", "table": "", "row": "", "__call__": "database", "__eq__": "other"}
STATEMENT_FACT = {"__init__": "statement", "statement": "", "__call__": "database", "__eq__": "other"}
OWN = {
    "Table": {"__init__": "name, *columns", "name": "", "columns": "", "marks": "",
              "is_row": "value", "__eq__": "other"},
    "Schema": {"__init__": "*tables", "names": "", "__getitem__": "at", "__contains__": "x",
               "__len__": "", "__eq__": "other"},
    "Database": {"schema": "", "__getitem__": "at", "__setitem__": "at, worth", "put": "name, *rows",
                 "take": "name, *rows", "count": "name, words", "__len__": "", "copied": "",
                 "is_within": "other", "__or__": "other", "__sub__": "other", "__ior__": "other",
                 "__eq__": "other"},
    "Statement": {"__call__": "database", "counts": "database", "broken": "database"},
    "Rule": {
        **STATEMENT,
        "__init__": "table, other, pairs, least, most, *, where=None, other_where=None",
        "table": "", "other": "", "pairs": "", "least": "", "most": "", "where": "",
        "other_where": "", "key": "table, *columns",
        "reference": "table, other, pairs, *, where=None",
        "at_most": "table, other, pairs, most, *, where=None, other_where=None",
        "exactly": "table, other, pairs, least, *, where=None, other_where=None",
        "none": "table, other, pairs, *, where=None, other_where=None",
    },
    "Total": {**STATEMENT, "__init__": "table, least, most, *, where=None", "table": "",
              "least": "", "most": "", "where": ""},
    "Rules": {"__init__": "schema, *statements", "schema": "", "statements": "",
              "keeps": "database", "broken": "database", "__len__": "", "__add__": "other",
              "__eq__": "other"},
    "Fact": {"__call__": "database"},
    "Present": ROW_FACT,
    "Missing": ROW_FACT,
    "Counted": {"__init__": "table, words, least, most", "table": "", "words": "", "least": "",
                "most": "", "__call__": "database", "__eq__": "other"},
    "Short": STATEMENT_FACT,
    "Long": STATEMENT_FACT,
    "Change": {"__init__": "schema, put, taken", "schema": "", "put_rows": "", "taken_rows": "",
               "fits": "database", "on": "database", "contrary": "", "__eq__": "other", "__len__": ""},
    "Demand": {"schema": "", "rule_index": "", "statement": "", "at": "", "shift": "",
               "other_shift": "", "__call__": "database", "__eq__": "other"},
    "Look": {"table": "", "words": "", "where": "", "most": "", "__call__": "database", "__eq__": "other"},
    "Field": {"__init__": "rules, change", "looks": "", "demands": "", "answers": "", "__len__": "",
              "__iter__": "", "is_answer": "value", "facts": "answer", "__getitem__": "at",
              "holds": "number, answer", "is_kept": "answer", "verdict": "", "standing": "number"},
    "Template": {"__init__": "put, taken", "put_rows": "", "taken_rows": "", "parameters": "", "cases": "",
                 "case_of": "names", "filled": "schema, names", "of": "change", "__eq__": "other"},
    "Keeper": {"__init__": "rules, look, write", "__call__": "change", "do": "change", "undo": "",
               "rules": "", "steps": "", "looked": "", "most_looks": "", "allow": "value", "attempt": "call"},
    "CountingKeeper": {"__init__": "rules, look, write", "total": ""},
    "House": {"__init__": "rules, database", "__call__": "change", "do": "change", "database": ""},
    "CountingHouse": {"__init__": "rules, database"},
    "Desk": {"__init__": "rules, database", "say": "line"},
}
STATIC = ["key", "reference", "at_most", "exactly", "none"]
CLASS_METHODS = ["of"]


def each_class():
    for file, names in FILES.items():
        module = importlib.import_module("onlylooks." + file)
        for name in names:
            yield file, getattr(module, name)


def parameters(method):
    """The parameters of a property, a static method or a method, without the object itself."""
    if isinstance(method, property):
        method = method.fget
    static, own = isinstance(method, staticmethod), "cls" if isinstance(method, classmethod) else "self"
    told = str(inspect.signature(getattr(method, "__func__", method)))[1:-1]
    return told if static else told.removeprefix(own).removeprefix(", ")


class InterfaceTest(unittest.TestCase):
    def test_each_class_is_defined_in_its_file(self):
        for file, found in each_class():
            self.assertTrue(inspect.isclass(found))
            self.assertEqual(found.__module__, "onlylooks." + file)

    def test_each_method_stands_in_the_class_itself(self):
        for _, found in each_class():
            for name, expected in OWN[found.__name__].items():
                with self.subTest(found.__name__, method=name):
                    method = vars(found)[name]
                    self.assertEqual(parameters(method), expected)
                    self.assertEqual(isinstance(method, staticmethod), name in STATIC)
                    self.assertEqual(isinstance(method, classmethod), name in CLASS_METHODS)

    def test_each_function_is_defined_in_its_file(self):
        for file, told in FUNCTIONS.items():
            module = importlib.import_module("onlylooks." + file)
            for name, expected in told.items():
                with self.subTest(name):
                    found = getattr(module, name)
                    self.assertTrue(inspect.isfunction(found))
                    self.assertEqual(found.__module__, module.__name__)
                    self.assertEqual(str(inspect.signature(found)), f"({expected})")

    def test_a_database_is_made_of_a_schema(self):
        made = inspect.signature(Database)
        self.assertEqual(list(made.parameters)[0], "schema")
        rest = list(made.parameters.values())[1:]
        self.assertTrue(all(each.kind is each.KEYWORD_ONLY for each in rest))
