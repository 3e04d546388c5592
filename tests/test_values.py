import unittest

from onlylooks.values import fresh, is_integer, is_list, is_word
from tests.anything import any_values, changed, is_plain


class WordsTest(unittest.TestCase):
    """Words and integers of [2]."""

    def test_words_at_their_bounds(self):
        for word in ("a", "z", "m", "ab", "abcdefgh", "zzzzzzzz"):
            self.assertIs(is_word(word), True)

    def test_other_values_are_no_words(self):
        for value in any_values():
            with self.subTest(value=value):
                self.assertIs(is_word(value), False)

    def test_integers_are_no_bools(self):
        for value in (0, 1, -1, 10 ** 59):
            self.assertIs(is_integer(value), True)
        for value in (True, False, None, "1", (1,), [1], {}):
            self.assertIs(is_integer(value), False)

    def test_a_tuple_may_be_passed_for_a_list(self):
        for value in ([], (), [1], (1,)):
            self.assertIs(is_list(value), True)
        for value in ("", "ab", {}, None, 1):
            self.assertIs(is_list(value), False)


class FreshTest(unittest.TestCase):
    """Copies of any value, with keys in the order of [3]."""

    def test_equal_and_of_the_same_kinds(self):
        for value in any_values():
            copy = fresh(value)
            with self.subTest(value=value):
                self.assertEqual(repr(copy), repr(value))
                self.assertTrue(is_plain(copy))

    def test_lists_and_dicts_are_new_all_the_way_down(self):
        for value in any_values():
            before = repr(value)
            changed(fresh(value))
            with self.subTest(before):
                self.assertEqual(repr(value), before)

    def test_keys_ascend(self):
        self.assertEqual(list(fresh({"b": 1, "ab": 2, "a": 3})), ["a", "ab", "b"])
        self.assertEqual(list(fresh({10: 1, 9: 2, -1: 3})), [-1, 9, 10])
        self.assertEqual(list(fresh({(2,): 1, (1, 2): 2, (1,): 3})), [(1,), (1, 2), (2,)])
        self.assertEqual(list(fresh([({"b": 1, "a": 2},)])[0][0]), ["a", "b"])

    def test_keys_of_several_kinds(self):
        mixed = {"b": 1, 2: 2, None: 3, (1, "a"): 4, "a": 5, 1: 6, ("a", 1): 7, False: 8}
        self.assertEqual(fresh(mixed), mixed)
        self.assertEqual([key for key in fresh(mixed) if isinstance(key, str)], ["a", "b"])
