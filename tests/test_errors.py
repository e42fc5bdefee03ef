"""[20] errors, with [4]."""

import unittest

from earlyorlate import errors
from earlyorlate.errors import CaseError

FIELDS = {
    "Wrong": ("place",),
    "BadItem": ("place", "index"),
    "TooMany": ("limit",),
    "NoFit": ("reason",),
    "NoHelp": ("reason",),
    "NotPlain": ("index",),
    "NoKinds": ("kinds",),
    "NoIndex": ("index",),
    "Unequal": ("one", "other"),
    "NoText": ("line",),
    "NoCommand": ("line",),
    "Nothing": (),
}

VALUES = [None, True, 0, -1, 10 ** 59, "", "a\nb", b"x", (), [], {}, set(), object(), len, CaseError, CaseError(1),
          ("gaps", (0, 1)), [[[]]], {"a": [1]}]


class ErrorsTest(unittest.TestCase):
    def test_classes(self):
        for name in FIELDS:
            made = getattr(errors, name)
            self.assertEqual(made.__name__, name)
            self.assertEqual(made.__bases__, (CaseError,))
            self.assertTrue(issubclass(made, ValueError))
        self.assertEqual(CaseError.__bases__, (ValueError,))

    def test_no_error_is_below_another_one(self):
        for name in FIELDS:
            for other in FIELDS:
                below = issubclass(getattr(errors, name), getattr(errors, other))
                self.assertEqual(below, name == other)

    def test_fields_are_the_objects_themselves(self):
        for name, fields in FIELDS.items():
            for value in VALUES:
                values = [value, [value]][:len(fields)]
                error = getattr(errors, name)(*values)
                self.assertEqual(sorted(vars(error)), sorted(fields))
                for field, given in zip(fields, values):
                    self.assertIs(getattr(error, field), given)

    def test_a_list_that_is_changed_afterwards(self):
        for name, fields in FIELDS.items():
            lists = [[1], [2]][:len(fields)]
            error = getattr(errors, name)(*lists)
            for field, given in zip(fields, lists):
                given.append(3)
                self.assertIs(getattr(error, field), given)
                self.assertEqual(getattr(error, field)[1:], [3])

    def test_number_of_values(self):
        for name, fields in FIELDS.items():
            made = getattr(errors, name)
            for many in range(4):
                if many != len(fields):
                    with self.assertRaises(TypeError):
                        made(*range(many))

    def test_nothing_takes_none(self):
        self.assertEqual(vars(errors.Nothing()), {})
        with self.assertRaises(TypeError):
            errors.Nothing(1)

    def test_case_error_takes_any_values(self):
        for many in range(len(VALUES) + 1):
            self.assertEqual(vars(CaseError(*VALUES[:many])), {})
        for value in VALUES:
            self.assertEqual(vars(CaseError(value)), {})

    def test_they_are_raised_and_caught(self):
        for name, fields in FIELDS.items():
            for caught in (getattr(errors, name), CaseError, ValueError):
                with self.assertRaises(caught):
                    raise getattr(errors, name)(*fields)


if __name__ == "__main__":
    unittest.main()
