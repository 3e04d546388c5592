import unittest

from onlylooks import errors
from tests.anything import any_values

FIELDS = {
    ValueError: {
        "InvalidTable": ["argument"], "InvalidSchema": [], "InvalidRow": ["value"],
        "OtherSchema": [], "InvalidRule": ["argument"], "Misfit": ["index"], "Circle": ["value"],
        "InvalidFact": ["index"], "InvalidChange": ["index"], "InvalidAnswer": ["value"],
        "InvalidTemplate": ["index"], "InvalidNames": ["value"], "InvalidPair": [],
        "InvalidLimit": ["value"], "Unreadable": ["index"], "NoLine": [],
    },
    LookupError: {
        "UnknownTable": ["value"], "UnknownColumn": ["value"], "OutOfRange": ["value"],
        "NoAnswer": ["value"], "NoCase": ["case"], "NoBranch": ["value"], "Nothing": [],
    },
    OverflowError: {"TooMany": ["limit"], "TooDear": ["number"]},
    RuntimeError: {
        "Broken": ["index", "spot"], "Unfit": ["index"], "NeverFits": [], "Refused": ["change"],
        "LookFailed": ["number"], "NoLook": ["value"],
    },
}


def each_error():
    """The tuples (base, class, fields) of all errors."""
    for base, named in FIELDS.items():
        for name, fields in named.items():
            yield base, getattr(errors, name), fields


class ErrorsTest(unittest.TestCase):
    """[95]"""

    def check(self, error, made, told):
        self.assertIsInstance(made, error)
        for field, value in told.items():
            self.assertIs(getattr(made, field), value)

    def test_directly_below_the_named_error_and_no_other(self):
        for base, error, _ in each_error():
            with self.subTest(error.__name__):
                self.assertEqual(error.__bases__, (base,))

    def test_made_by_position_and_by_name_from_any_values(self):
        for _, error, fields in each_error():
            for value in any_values():
                values = [value, object(), [value]][:len(fields)]
                told = dict(zip(fields, values))
                with self.subTest(error.__name__, value=value):
                    self.check(error, error(*values), told)
                    self.check(error, error(**told), told)

    def test_fields_stand_in_the_order_that_is_told(self):
        broken = errors.Broken(spot=("x",), index=3)
        self.assertEqual((broken.index, broken.spot), (3, ("x",)))
        broken = errors.Broken(4, ("y",))
        self.assertEqual((broken.index, broken.spot), (4, ("y",)))

    def test_raised_and_caught_with_its_values(self):
        for base, error, fields in each_error():
            values = [["v"], ["w"]][:len(fields)]
            with self.subTest(error.__name__):
                with self.assertRaises(base) as caught:
                    raise error(*values)
                self.check(error, caught.exception, dict(zip(fields, values)))

    def test_a_field_is_needed(self):
        for _, error, fields in each_error():
            if fields:
                with self.subTest(error.__name__), self.assertRaises(TypeError):
                    error()

    def test_there_are_no_others(self):
        found = {name for name in vars(errors) if not name.startswith("__")}
        self.assertEqual(found, {error.__name__ for _, error, _ in each_error()})
