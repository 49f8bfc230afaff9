"""[Z1]: the errors and their fields."""

import unittest

from frankmarks import errors

FIELDS = {
    "BadAnswers": ("given",),
    "BadBatch": (),
    "BadBelief": ("given",),
    "BadMark": ("given",),
    "BadMenu": ("error",),
    "BadNumber": ("given",),
    "BadRow": ("given",),
    "BadText": ("given",),
    "Busy": (),
    "LastWord": (),
    "NoAnswer": ("given",),
    "NoCell": ("word",),
    "NotFrank": ("word", "weights"),
    "NothingToUndo": (),
    "NoVersion": ("given",),
    "NoWord": ("given",),
    "Rejected": ("index",),
    "TooFew": (),
    "TooGreat": (),
    "TooMany": ("limit",),
    "TooManyEdits": (),
    "Unlike": (),
}


class Errors(unittest.TestCase):
    def test_the_base_is_a_value_error(self):
        self.assertTrue(issubclass(errors.FrankError, ValueError))

    def test_each_error_is_a_direct_subclass_of_the_base(self):
        for name in FIELDS:
            with self.subTest(name):
                self.assertEqual(getattr(errors, name).__bases__, (errors.FrankError,))
                self.assertEqual(getattr(errors, name).__module__, "frankmarks.errors")

    def test_there_are_no_other_errors(self):
        found = [name for name, value in vars(errors).items() if isinstance(value, type)]
        self.assertEqual(sorted(found), sorted([*FIELDS, "FrankError"]))

    def test_the_fields_are_kept_as_attributes_in_their_order(self):
        for name, fields in FIELDS.items():
            values = [["the very object", field] for field in fields]
            error = getattr(errors, name)(*values)
            with self.subTest(name):
                self.assertEqual(sorted(vars(error)), sorted(fields))
                for field, value in zip(fields, values):
                    self.assertIs(getattr(error, field), value)

    def test_fields_may_be_any_values(self):
        for value in (None, True, (), {"a": [1]}, "a\nb", 10 ** 5000):
            for name, fields in FIELDS.items():
                error = getattr(errors, name)(*[value for _ in fields])
                for field in fields:
                    self.assertIs(getattr(error, field), value)

    def test_an_error_with_another_number_of_fields_is_none(self):
        for name, fields in FIELDS.items():
            if fields:
                with self.subTest(name), self.assertRaises(TypeError):
                    getattr(errors, name)(*[0] * (len(fields) + 1))
                with self.subTest(name), self.assertRaises(TypeError):
                    getattr(errors, name)()


if __name__ == "__main__":
    unittest.main()
