"""The errors of the interface."""

import unittest

from readorder import errors
from tests.support import THINGS

FIELDS = {
    "NoLogs": (),
    "Stuck": ("group",),
    "NotALog": ("log",),
    "BadLog": ("log",),
    "BadLogs": ("value",),
    "BadOrder": ("order",),
    "BadCell": ("cell",),
    "OrdersClash": ("one", "other"),
    "BadSnapshot": ("snapshot",),
    "BadSwap": ("place",),
    "DifferentLogs": (),
    "TooLarge": ("limit",),
    "BadSizes": ("sizes",),
    "BadResults": ("results",),
    "Full": (),
    "NothingToUndo": (),
    "BadText": ("line",),
    "BadCommand": ("line",),
}


class ErrorsTest(unittest.TestCase):
    def check(self, error, name, values):
        """The error is of its own class and of no other one, and has its fields."""
        self.assertIsInstance(error, ValueError)
        self.assertIsInstance(error, errors.ReadError)
        for other in FIELDS:
            self.assertEqual(isinstance(error, getattr(errors, other)), other == name)
        for field, value in zip(FIELDS[name], values):
            self.assertIs(getattr(error, field), value)
        self.assertEqual(set(vars(error)), set(FIELDS[name]))

    def test_there_are_eighteen(self):
        self.assertEqual(len(FIELDS), 18)
        here = {name for name, thing in vars(errors).items() if isinstance(thing, type)}
        self.assertEqual(here, {"ReadError", *FIELDS})

    def test_bases_and_file(self):
        self.assertEqual(errors.ReadError.__bases__, (ValueError,))
        self.assertEqual(errors.ReadError.__module__, "readorder.errors")
        for name in FIELDS:
            self.assertEqual(getattr(errors, name).__bases__, (errors.ReadError,))
            self.assertEqual(getattr(errors, name).__module__, "readorder.errors")

    def test_read_error_itself(self):
        error = errors.ReadError("why")
        self.assertIsInstance(error, ValueError)
        for name in FIELDS:
            self.assertNotIsInstance(error, getattr(errors, name))

    def test_by_position_and_by_name_with_any_objects(self):
        for name, fields in FIELDS.items():
            made = getattr(errors, name)
            for one, other in zip(THINGS, reversed(THINGS)):
                values = (one, other)[:len(fields)]
                with self.subTest(name=name, values=values):
                    self.check(made(*values), name, values)
                    self.check(made(**dict(zip(fields, values))), name, values)

    def test_two_fields_in_any_order_of_names(self):
        error = errors.OrdersClash(other=2, one=1)
        self.assertEqual((error.one, error.other), (1, 2))
        error = errors.OrdersClash(1, other=2)
        self.assertEqual((error.one, error.other), (1, 2))

    def test_fields_are_kept_and_not_copied(self):
        value = [1]
        error = errors.BadLogs(value)
        value.append(2)
        self.assertEqual(error.value, [1, 2])

    def test_each_can_be_raised_and_caught(self):
        for name, fields in FIELDS.items():
            made = getattr(errors, name)
            for caught in (made, errors.ReadError, ValueError):
                with self.assertRaises(caught) as context:
                    raise made(*range(len(fields)))
                self.check(context.exception, name, tuple(range(len(fields))))

    def test_a_missing_or_a_foreign_field_is_refused(self):
        for name, fields in FIELDS.items():
            if fields:
                with self.subTest(name=name):
                    with self.assertRaises(TypeError):
                        getattr(errors, name)()
                    with self.assertRaises(TypeError):
                        getattr(errors, name)(*range(len(fields) + 1))
                    with self.assertRaises(TypeError):
                        getattr(errors, name)(foreign=1)


if __name__ == "__main__":
    unittest.main()
