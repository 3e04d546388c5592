"""Rules as texts and rows as bytes [90], [91]."""

import random
import unittest

from onlylooks.databases import Database
from onlylooks.errors import Circle, InvalidRule, InvalidSchema, InvalidTable, Misfit, TooMany, Unreadable
from onlylooks.rules import Rules
from onlylooks.statements import Rule, Total
from onlylooks.tables import Schema, Table
from onlylooks.texts import read_rows, read_rules, show_rows, show_rules
from tests.anything import any_values
from tests.towns import filled, house, town
from tests.worlds import Maker, all_rows, with_rows

TOWN = "table item id at kind:big|small\ntable shop id"
FULL = Rules(
    town(), Rule.key("item", "id"), Rule.reference("item", "shop", [("at", "id")]),
    Rule("shop", "item", [("id", "at")], 0, 1, other_where={"kind": ["big"]}), Total("shop", 0, 2),
    Total("item", 1, None, where={"kind": ["small"]}))
TEXT = TOWN + """
rule item item id=id from 0 to 1
rule item shop at=id from 1 to any
rule shop item id=at from 0 to 1 other kind:big
total shop from 0 to 2
total item from 1 to any where kind:small"""


def index_of(call, *arguments):
    """The index that Unreadable tells; None if there is no error."""
    try:
        call(*arguments)
    except Unreadable as error:
        return error.index
    return None


class ShowRulesTest(unittest.TestCase):
    """[90]"""

    def test_lines(self):
        self.assertEqual(show_rules(FULL), TEXT)
        self.assertEqual(show_rules(rules=Rules(town())), TOWN)
        self.assertIs(type(show_rules(FULL)), str)

    def test_columns_and_marks(self):
        schema = Schema(Table("b", ("z", ["q", "p", "r"]), "y", ("x", ["b", "a", "c"])), Table("a", "n"))
        where, other = {"z": ["r", "q"], "x": ["c"]}, {"x": ["c", "a"]}
        rules = Rules(schema, Rule("b", "b", [("z", "z"), ("y", "y")], 0, 3, where=where, other_where=other),
                      Rule("a", "b", [], 2, 2, other_where=where), Rule("b", "a", [("y", "n")], 0, 0, where=other),
                      Total("b", 2, 3, where={**other, "z": ["q"]}))
        self.assertEqual(show_rules(rules).split("\n"), [
            "table b z:q|p|r y x:b|a|c", "table a n",
            "rule b b z=z y=y from 0 to 3 where x:c z:q|r other x:a|c",
            "rule a b from 2 to 2 other x:c z:q|r",
            "rule b a y=n from 0 to 0 where x:a|c",
            "total b from 2 to 3 where x:a|c z:q"])
        self.assertEqual(read_rules(show_rules(rules)), rules)


class ReadRulesTest(unittest.TestCase):
    """[90]"""

    def test_there_and_back(self):
        seen = 0
        for number in range(600):
            maker = Maker(random.Random(number))
            rules = maker.rules(maker.schema(3, 3, 3), 5)
            text = show_rules(rules)
            self.assertEqual(read_rules(text), rules)
            self.assertEqual(read_rules(text=text), rules)
            self.assertEqual(show_rules(read_rules(text)), text)
            seen += len(rules)
        self.assertGreater(seen, 800)

    def test_without_statements(self):
        self.assertEqual(read_rules(TOWN), Rules(town()))
        self.assertEqual(read_rules("table a b"), Rules(Schema(Table("a", "b"))))

    def test_any_order_behind_where_and_other(self):
        head = "table t a:p|q|r b:p|q|r\n"
        one = read_rules(head + "rule t t from 0 to 1 where a:p|q b:r other b:q|r a:p")
        for line in ("rule t t from 0 to 1 where b:r a:q|p other a:p b:r|q", "rule t t from 0 to 1 where a:q|p b:r other a:p b:q|r"):
            self.assertEqual(read_rules(head + line), one)
        self.assertEqual(read_rules(head + "total t from 0 to 1 where b:q|p a:r"), read_rules(head + "total t from 0 to 1 where a:r b:p|q"))
        self.assertNotEqual(read_rules("table t a:p|q"), read_rules("table t a:q|p"))

    def test_words_of_the_lines_as_names(self):
        text = "\n".join([
            "table table to where", "table from any:rule|total other", "table rule from", "table other table:where|other",
            "rule table rule to=from from 1 to any", "rule from from any=any from 0 to 1 where any:rule other any:total",
            "rule from rule other=from from 0 to 2 where any:total", "total other from 0 to 1 where table:where",
            "rule other other from 0 to 3 where table:other other table:where"])
        self.assertEqual(show_rules(read_rules(text)), text)

    def test_no_string(self):
        for value in [*any_values(), TEXT.encode(), [TEXT], (TEXT,), b"", [], {TEXT: 1}]:
            if type(value) is not str:
                self.assertEqual(index_of(read_rules, value), 0, value)

    def test_texts_of_any_kind(self):
        for value in [*any_values(), "", "\n", " ", "table", "table ", "table a", "table a ", "rule", "total", "from", "TABLE a b", "table\ta b"]:
            if type(value) is str:
                self.assertEqual(index_of(read_rules, value), 0, value)

    def test_lines_at_the_end(self):
        for text in (TEXT, TOWN):
            many = len(text.split("\n"))
            for more in ("\n", "\n\n", "\n ", "\nx", "\r", "\n# x", "\n" + text):
                index = many if more.startswith("\n") else many - 1
                self.assertEqual(index_of(read_rules, text + more), index)
        self.assertEqual(index_of(read_rules, "\n" + TOWN), 0)
        self.assertEqual(index_of(read_rules, TOWN.replace("\n", "\n\n")), 1)

    def test_lines_in_another_place(self):
        lines = TEXT.split("\n")
        for index in range(len(lines)):
            self.assertEqual(index_of(read_rules, "\n".join(lines[:index + 1])), None)
        self.assertEqual(index_of(read_rules, "\n".join(lines[2:])), 0)
        self.assertEqual(index_of(read_rules, "\n".join([lines[0], lines[2], lines[1]])), 2)
        self.assertEqual(index_of(read_rules, "\n".join([lines[0], lines[3], lines[1]])), 1)
        self.assertEqual(index_of(read_rules, "\n".join([lines[1], lines[5], lines[0]])), 2)

    def test_one_too_many(self):
        tables = [f"table {name} id" for name in "abcde"]
        self.assertEqual(index_of(read_rules, "\n".join(tables[:4])), None)
        self.assertEqual(index_of(read_rules, "\n".join(tables)), 4)
        self.assertEqual(index_of(read_rules, "\n".join([*tables[:2], "total a from 0 to 1"] + ["total b from 0 to 1"] * 4)), None)
        self.assertEqual(index_of(read_rules, "\n".join([*tables[:2]] + ["total b from 0 to 1"] * 7)), 7)

    def test_equal_names(self):
        self.assertEqual(index_of(read_rules, "table a id\ntable b id\ntable a at\ntable a id"), 2)
        self.assertEqual(index_of(read_rules, "table a id id"), 0)
        self.assertEqual(index_of(read_rules, "table a id id:p|q"), 0)
        self.assertEqual(index_of(read_rules, "table a id\ntable b at:p|p"), 1)

    def test_circles(self):
        head = "table a id\ntable b id\n"
        self.assertEqual(index_of(read_rules, head + "rule a b from 1 to any\nrule b a from 1 to 1"), 3)
        self.assertEqual(index_of(read_rules, head + "rule a b from 0 to 3\nrule b a from 1 to 1\nrule b b from 2 to 2"), 4)
        self.assertEqual(index_of(read_rules, head + "rule a b from 0 to 3\nrule b a from 1 to 1"), None)

    def test_wrong_lines(self):
        good = "rule item shop at=id from 1 to any where kind:big"
        self.assertIsNone(index_of(read_rules, TOWN + "\n" + good))
        for line in [
            "rule item shop at=id from 1 to any where kind:big ", " " + good, good.replace(" ", "  ", 1), good.replace("from", "From"), good.replace("at=id", "at = id"),
            good.replace("at=id", "at=id at=id"), good.replace("at=id", "at=id id=id"), good.replace("at=id", "at"), good.replace("at=id", "at=id=id"),
            good.replace("at=id", "=id"), good.replace("at=id", "at="), good.replace("at=id", "="), good.replace("at=id", "kind=id"), good.replace("at=id", "no=id"),
            good.replace("from 1", "from 3"), good.replace("from 1", "from 01"), good.replace("from 1", "from +1"), good.replace("from 1", "from -1"),
            good.replace("from 1", "from any"), good.replace("from 1", "from \u0661"), good.replace("from 1", "from \u00b9"), good.replace("from 1", "from"), good.replace("from 1", "from 0"),
            good.replace("any", "0"), good.replace("any", "4"), good.replace("any", "10"), good.replace("any", "None"), good.replace("any", ""), good.replace("any", "Any"),
            good.replace("to any", "to"), good.replace("to any", "any"), good.replace("to any", "to any any"), good.replace(" to ", " from "),
            good.replace("kind:big", ""), good.replace(" kind:big", ""), good.replace("kind:big", "kind"), good.replace("kind:big", "kind:"), good.replace("kind:big", ":big"),
            good.replace("kind:big", "kind:big|"), good.replace("kind:big", "kind:|big"), good.replace("kind:big", "kind:big|big"), good.replace("kind:big", "kind:big|small"),
            good.replace("kind:big", "kind:old"), good.replace("kind:big", "at:big"), good.replace("kind:big", "kind:big:big"), good.replace("kind:big", "kind:big kind:big"),
            good.replace("kind:big", "kind:big kind:small"), good.replace("kind:big", "kind:Big"), good.replace("where", "other"), good.replace("where", "Where"),
            good.replace("where", "where where"), good.replace("where", ""), good + " where kind:big", good + " other", good + " other kind:big", good + " other id:x",
            good.replace("where", "where other"), "other kind:big " + good, good + " x", good.replace("shop", "box"), good.replace("item", "box"), good.replace("item", ""),
            good.replace("rule", "total"), good.replace("rule", "Rule"), good.replace("rule ", ""), "rule item from 1 to any", "rule from 1 to any", "rule", "rule item shop",
            "total", "total shop", "total shop from", "total shop from 0", "total shop from 0 to", "total shop from 0 to any", "total shop from 0 to 1 ", "total shop to 1 from 0",
            "total shop from 2 to 1", "total box from 0 to 1", "total item from 0 to 1 other kind:big", "total item from 0 to 1 where kind:big other kind:big",
            "total item from 0 to 1 where", "total item from 0 to 1 kind:big", "total item item from 0 to 1", "total item id=id from 0 to 1", "total  from 0 to 1",
            "table shop at", "table more", "table more ", "table More id", "table more id  at", "table more id at to id", "table more a b c d", "table more a:p",
            "table more a:p|q|r|s", "table more a:", "table more a:p|p", "table more a|p", "table more a:p|Q", "table more a:p,q", "table more :p|q", "table more abcdefghi",
        ]:
            self.assertEqual(index_of(read_rules, TOWN + "\n" + line), 2, line)
            self.assertEqual(index_of(read_rules, TOWN + "\n" + line + "\n" + good), 2, line)

    def test_texts_that_are_otherwise_at_one_place(self):
        """Each such text is refused at the line told by trying the lines up to it, or is read as it is written."""
        refused = read = 0
        chance = random.Random(3)
        for place in range(len(TEXT) + 1):
            for sign in ["", *chance.sample(" \n=:|abk019ITé\t\r", 6)]:
                for behind in (TEXT[place:], TEXT[place + 1:]):
                    text = TEXT[:place] + sign + behind
                    index = index_of(read_rules, text)
                    if index is None:
                        self.assertEqual(show_rules(read_rules(text)), text)
                        read += 1
                    else:
                        lines = text.split("\n")
                        self.assertIsNone(index_of(read_rules, "\n".join(lines[:index])) if index else None)
                        self.assertEqual(index_of(read_rules, "\n".join(lines[:index + 1])), index)
                        refused += 1
        self.assertGreater(refused, 1000)
        self.assertGreater(read, 100)

    def test_own_errors_do_not_come_out(self):
        for text in ("table A b", "table a b b", "table a id\ntable a id", TOWN + "\nrule item item from 9 to 1", TOWN + "\ntotal box from 0 to 1"):
            for error in (InvalidTable, InvalidSchema, InvalidRule, Misfit, TooMany, Circle):
                try:
                    read_rules(text)
                except error:
                    self.fail(error.__name__)
                except Unreadable:
                    pass


class ShowRowsTest(unittest.TestCase):
    """[91]"""

    def test_lines(self):
        self.assertEqual(show_rows(house()), b"item a x small\nitem b x big\nshop x\n")
        self.assertEqual(show_rows(database=Database(town())), b"")
        self.assertIs(type(show_rows(house())), bytes)
        turned = Schema(town()["shop"], town()["item"])
        self.assertEqual(show_rows(filled(turned, item=[("a", "x", "big")], shop=[("z",), ("y",)])), b"shop y\nshop z\nitem a x big\n")


class ReadRowsTest(unittest.TestCase):
    """[91]"""

    def test_there_and_back(self):
        for number in range(300):
            maker = Maker(random.Random(number))
            schema = maker.schema(3, 3, 3)
            rows = all_rows(schema, "abc")
            database = with_rows(schema, maker.source.sample(rows, maker.source.randint(0, min(9, len(rows)))))
            data = show_rows(database)
            self.assertEqual(read_rows(schema, data), database)
            self.assertEqual(show_rows(read_rows(data=data, schema=schema)), data)
            lines = data.split(b"\n")[:-1]
            maker.source.shuffle(lines)
            again = b"".join(line + b"\n" for line in [*lines, *lines[:2]])
            self.assertEqual(read_rows(schema, again), database)

    def test_no_bytes_at_all(self):
        self.assertEqual(read_rows(town(), b""), Database(town()))

    def test_no_bytes(self):
        for value in [*any_values(), "shop x\n", bytearray(b"shop x\n"), [b"shop x\n"], (b"",)]:
            self.assertEqual(index_of(read_rows, town(), value), 0, value)

    def test_cut_anywhere(self):
        data = show_rows(house())
        for place in range(len(data)):
            part = data[:place]
            index = None if part.endswith(b"\n") or not part else part.count(b"\n")
            self.assertEqual(index_of(read_rows, town(), part), index)
            if index is None:
                self.assertLessEqual(len(read_rows(town(), part)), 3)

    def test_wrong_lines(self):
        for line in [b"", b" ", b"shop", b"shop ", b"shop x ", b" shop x", b"shop  x", b"shop x y", b"shop X", b"shop x1", b"shop abcdefghi", b"Shop x", b"box x",
                     b"item a x", b"item a x old", b"item a x big big", b"item a x big|small", b"item a x:big", b"shop x\r", b"shop\tx", b"shop x\x00", b"\x00", b"\xff",
                     b"shop \xc3\xa9", b"shop \xe9", b"\xc3", b"shop x/", b"shop ", b"x", b"\xef\xbb\xbfshop x", b"shop, x", b"shop\x0bx", b"shop x\x85"]:
            self.assertEqual(index_of(read_rows, town(), line + b"\n"), 0, line)
            self.assertEqual(index_of(read_rows, town(), b"shop x\nitem a x big\n" + line + b"\nshop y\n"), 2, line)
            self.assertEqual(index_of(read_rows, town(), b"shop x\nshop x\n" + line + b"\nx"), 2, line)

    def test_without_a_newline_at_the_end(self):
        self.assertEqual(index_of(read_rows, town(), b"shop x"), 0)
        self.assertEqual(index_of(read_rows, town(), b"shop x\nshop y"), 1)
        self.assertEqual(index_of(read_rows, town(), b"shop x\nshop y\nx"), 2)
        self.assertEqual(index_of(read_rows, town(), b"shop x\n\n"), 1)
        self.assertEqual(index_of(read_rows, town(), b"\n"), 0)

    def test_another_schema(self):
        data = show_rows(house())
        self.assertEqual(index_of(read_rows, Schema(Table("shop", "id")), data), 0)
        self.assertEqual(index_of(read_rows, Schema(Table("item", "a", "b", "c")), data), 2)
        self.assertEqual(len(read_rows(Schema(town()["shop"], Table("item", "a", "b", "c")), data)), 3)

    def test_bytes_that_are_otherwise_at_one_place(self):
        data = show_rows(house())
        for place in range(len(data)):
            for sign in (b"", b" ", b"\n", b"z", b"Z", b"\xff", b"0"):
                bent = data[:place] + sign + data[place + 1:]
                index = index_of(read_rows, town(), bent)
                lines = bent.split(b"\n")
                right = [self.is_row(line) for line in lines[:-1]] + [lines[-1] == b""]
                self.assertEqual(index, None if all(right) else right.index(False))

    def is_row(self, line):
        words = line.decode("latin-1").split(" ")
        return words[0] in town() and town()[words[0]].is_row(tuple(words[1:]))
