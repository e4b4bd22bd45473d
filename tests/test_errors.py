"""Point 4: the error classes, their base classes and their fields."""

import copy
import pickle
import unittest

from retryslots import errors
from retryslots.errors import RetryError
from tests.samples import no_integers

FIELDS = {
    "InvalidRule": ("part",),
    "InvalidAttempt": ("attempt",),
    "InvalidSlot": ("slot",),
    "InvalidScene": ("part", "at"),
    "InvalidClient": ("client",),
    "InvalidLog": ("at",),
    "InvalidBound": ("part",),
    "InvalidReason": ("at",),
    "LimitExceeded": ("limit",),
    "InvalidText": ("line", "word"),
}


class Errors(unittest.TestCase):
    def test_base_class(self):
        self.assertEqual(RetryError.__bases__, (ArithmeticError,))

    def test_classes_of_the_file(self):
        defined = {name for name, value in vars(errors).items() if isinstance(value, type)}
        self.assertEqual(defined, {"RetryError", *FIELDS})
        for name in defined:
            self.assertEqual(getattr(errors, name).__module__, "retryslots.errors")

    def test_each_class_is_a_direct_subclass(self):
        for name in FIELDS:
            self.assertEqual(getattr(errors, name).__bases__, (RetryError,), name)

    def test_fields_by_position_and_by_name(self):
        for name, fields in FIELDS.items():
            made = getattr(errors, name)
            worths = [f"worth of {field}" for field in fields]
            named = dict(zip(fields, worths))
            self.assertEqual(vars(made(*worths)), named, name)
            self.assertEqual(vars(made(**named)), named, name)

    def test_fields_are_needed(self):
        for name, fields in FIELDS.items():
            made = getattr(errors, name)
            self.assertRaises(TypeError, made, *fields[1:])
            self.assertRaises(TypeError, made, *fields, 0)

    def test_fields_take_any_object(self):
        for name, fields in FIELDS.items():
            for worth in [*no_integers(), 10 ** 5000]:
                made = getattr(errors, name)(*[worth for field in fields])
                for field in fields:
                    self.assertIs(getattr(made, field), worth)

    def test_errors_are_caught_by_their_base_classes(self):
        for name, fields in FIELDS.items():
            for base in (RetryError, ArithmeticError):
                with self.assertRaises(base):
                    raise getattr(errors, name)(*fields)

    def test_errors_are_copied_with_their_fields(self):
        for name, fields in FIELDS.items():
            made = getattr(errors, name)(*fields)
            for other in (copy.deepcopy(made), pickle.loads(pickle.dumps(made))):
                self.assertIs(other.__class__, made.__class__)
                self.assertEqual(vars(other), vars(made))


if __name__ == "__main__":
    unittest.main()
