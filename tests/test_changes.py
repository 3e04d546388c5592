"""Changes [40], [41]."""

import unittest

from onlylooks.changes import Change
from onlylooks.databases import Database
from onlylooks.errors import InvalidChange, OtherSchema, TooMany, Unfit
from onlylooks.tables import Schema, Table
from tests.anything import any_values, is_plain
from tests.towns import filled, house, town

BIG, SMALL = ("item", ("b", "x", "big")), ("item", ("a", "x", "small"))
SHOP, OTHER = ("shop", ("x",)), ("shop", ("y",))
NEW = ("item", ("c", "y", "big"))


def split(entries):
    """All ways to hand entries to a change: some of them put, the others taken."""
    return [(entries[:many], entries[many:]) for many in range(len(entries) + 1)]


class MadeTest(unittest.TestCase):
    def test_none_to_three_entries(self):
        for many in range(4):
            for put, taken in split([BIG, SHOP, NEW][:many]):
                for kind in (list, tuple):
                    change = Change(town(), kind(put), kind(taken))
                    self.assertEqual(change.put_rows, tuple(put))
                    self.assertEqual(change.taken_rows, tuple(taken))
                    self.assertTrue(is_plain((change.put_rows, change.taken_rows)))
                    self.assertEqual((len(change), change.schema), (many, town()))

    def test_by_name(self):
        self.assertEqual(Change(taken=[BIG], put=[NEW], schema=town()), Change(town(), [NEW], [BIG]))

    def invalid(self, index, put, taken):
        with self.assertRaises(InvalidChange) as caught:
            Change(town(), put, taken)
        self.assertEqual(caught.exception.index, index)

    def test_no_entries(self):
        wrong = [*any_values(), list(BIG), BIG + (None,), BIG[:1], ("zz", ("x",)), ("item", ("x",)), ("shop", ["x"]), ("shop", "x"),
                 ("shop", ("X",)), ("item", ("a", "x", "old")), (("shop",), ("x",)), (["shop"], ("x",)), ("shop", ()), ("x",),
                 ({}, {}), (None, None), town(), Change]
        for value in wrong:
            self.invalid(0, [value], [])
            self.invalid(0, [], [value])
            self.invalid(1, [BIG, value], [value])
            self.invalid(1, [BIG], [value])
            self.invalid(2, [BIG], [SHOP, value, BIG, None])
            self.invalid(3, [BIG, NEW], [SHOP, value])
            self.invalid(4, [BIG, NEW, SMALL], [SHOP, value])

    def test_equal_entries(self):
        self.invalid(1, [BIG, BIG], [])
        self.invalid(1, [], [BIG, BIG])
        self.invalid(1, [BIG], [BIG])
        self.invalid(2, [BIG, SHOP], [BIG])
        self.invalid(2, [BIG, SHOP], [SHOP, SHOP])
        self.invalid(4, [BIG, SHOP, NEW], [SMALL, NEW])
        self.invalid(1, [BIG, BIG, None], [None])

    def test_equal_rows_of_two_tables(self):
        schema = Schema(Table("one", "id"), Table("two", "id"))
        self.assertEqual(len(Change(schema, [("one", ("x",))], [("two", ("x",))])), 2)

    def test_more_than_three(self):
        for put, taken in split([BIG, SHOP, NEW, SMALL]):
            with self.assertRaises(TooMany) as caught:
                Change(town(), put, taken)
            self.assertEqual(caught.exception.limit, 3)
        with self.assertRaises(TooMany):
            Change(town(), [("shop", (name,)) for name in "abcdefgh"], [])

    def test_lists_that_are_changed_later(self):
        put, taken = [BIG], [SHOP]
        change = Change(town(), put, taken)
        put.append(NEW)
        taken.clear()
        self.assertEqual(change, Change(town(), [BIG], [SHOP]))
        self.assertEqual(len(change), 2)

    def test_equal(self):
        def same():
            return Change(town(), [BIG, NEW], [SHOP])
        others = [
            Change(town(), [NEW, BIG], [SHOP]), Change(town(), [BIG], [SHOP]), Change(town(), [BIG, NEW], []),
            Change(town(), [BIG], [NEW, SHOP]), Change(town(), [SHOP], [BIG, NEW]), Change(town(), [BIG, NEW], [OTHER]),
            Change(Schema(town()["shop"], town()["item"]), [BIG, NEW], [SHOP]), Change(town(), [], []),
        ]
        self.assertTrue(same() == same())
        self.assertFalse(same() != same())
        for other in [*others, *any_values(), ((BIG, NEW), (SHOP,)), town()]:
            self.assertIs(same() == other, False)
            self.assertIs(same() != other, True)
            self.assertIs(other == same(), False)


class OnTest(unittest.TestCase):
    def test_fits(self):
        cases = [
            (True, [], []), (True, [NEW], []), (True, [], [BIG]), (True, [OTHER, NEW], [SHOP]), (True, [], [BIG, SMALL, SHOP]),
            (False, [BIG], []), (False, [], [NEW]), (False, [NEW, BIG], [SHOP]), (False, [NEW], [OTHER]), (False, [SHOP], [OTHER]),
        ]
        for expected, put, taken in cases:
            self.assertIs(Change(town(), put, taken).fits(house()), expected)
        self.assertIs(Change(town(), [BIG], []).fits(Database(town())), True)

    def test_on(self):
        before = house()
        change = Change(town(), [NEW, OTHER], [BIG])
        after = change.on(before)
        self.assertEqual(after, filled(town(), item=[NEW[1], SMALL[1]], shop=[SHOP[1], OTHER[1]]))
        self.assertEqual(before, house())
        after.put("shop", ("zz",))
        self.assertEqual(before, house())
        none = Change(town(), [], [])
        self.assertEqual(none.on(before), before)
        none.on(before).put("shop", ("zz",))
        self.assertEqual(before, house())
        self.assertEqual(Change(town(), [], [BIG, SMALL, SHOP]).on(before), Database(town()))

    def test_unfit(self):
        cases = [
            (0, [BIG], []), (0, [], [NEW]), (1, [NEW, BIG], [SHOP]), (1, [NEW], [OTHER]), (0, [SHOP], [OTHER]),
            (2, [NEW, OTHER], [("item", ("b", "x", "small"))]), (2, [], [BIG, SHOP, NEW]), (1, [NEW, BIG], [OTHER]),
        ]
        for index, put, taken in cases:
            database = house()
            with self.assertRaises(Unfit) as caught:
                Change(town(), put, taken).on(database)
            self.assertEqual(caught.exception.index, index)
            self.assertEqual(database, house())

    def test_other_schema(self):
        turned = Schema(town()["shop"], town()["item"])
        for put, taken in [([NEW], []), ([], [NEW]), ([BIG], []), ([], [])]:
            for call in (Change(town(), put, taken).fits, Change(town(), put, taken).on):
                with self.assertRaises(OtherSchema):
                    call(Database(turned))

    def test_contrary(self):
        change = Change(town(), [NEW, OTHER], [BIG])
        back = change.contrary()
        self.assertEqual((back.schema, back.put_rows, back.taken_rows), (town(), (BIG,), (NEW, OTHER)))
        self.assertEqual(back.contrary(), change)
        self.assertTrue(back.fits(change.on(house())))
        self.assertEqual(back.on(change.on(house())), house())
        self.assertEqual(Change(town(), [], []).contrary(), Change(town(), [], []))
        self.assertEqual(change, Change(town(), [NEW, OTHER], [BIG]))
