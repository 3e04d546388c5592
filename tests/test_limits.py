import unittest

from onlylooks import limits

LIMITS = {
    "MAX_WORD": 8, "MAX_TABLES": 4, "MAX_COLUMNS": 3, "MAX_STATEMENTS": 5, "MAX_LEAST": 2,
    "MAX_MOST": 3, "MAX_ENTRIES": 3, "MAX_WANTED": 16, "MAX_PAPER": 6, "MAX_ANSWERS": 200,
    "MAX_OPEN": 8, "MAX_NAMES": 4,
}


class LimitsTest(unittest.TestCase):
    """[96]"""

    def test_each_limit_has_its_number(self):
        for name, number in LIMITS.items():
            with self.subTest(name):
                self.assertEqual(getattr(limits, name), number)
                self.assertIs(type(getattr(limits, name)), int)

    def test_there_are_no_others(self):
        found = {name for name in vars(limits) if not name.startswith("__")}
        self.assertEqual(found, set(LIMITS))
