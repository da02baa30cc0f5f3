"""The error classes of midfall/errors.py."""

import unittest

from midfall import errors
from midfall.errors import (
    CallFailed,
    InvalidHistory,
    InvalidProgram,
    InvalidResult,
    MidfallError,
    NoItem,
    NotCached,
    UnknownPlace,
    UnknownProcedure,
)

FIELDS = {
    InvalidProgram: ("line",),
    InvalidResult: ("line",),
    InvalidHistory: ("line",),
    UnknownProcedure: ("name",),
    UnknownPlace: ("place",),
    NotCached: ("name",),
    NoItem: ("path",),
    CallFailed: ("name", "path", "place"),
}
ANY_VALUES = (
    0, -7, 10 ** 5000, "", "p", "{0}", "a\nb", (), (0, 0, 2), ("p", ("q", None)), None, True, b"x",
)


class ErrorFieldsTest(unittest.TestCase):
    def test_fields_by_place(self):
        for error_class, fields in FIELDS.items():
            values = [f"value{number}" for number in range(len(fields))]
            error = error_class(*values)
            self.assertEqual([getattr(error, field) for field in fields], values, error_class)

    def test_fields_by_name_in_any_order(self):
        for error_class, fields in FIELDS.items():
            values = {field: f"the {field}" for field in reversed(fields)}
            error = error_class(**values)
            self.assertEqual({field: getattr(error, field) for field in fields}, values, error_class)

    def test_fields_partly_by_place(self):
        error = CallFailed("b", place="e", path=("b", "c", "a"))
        self.assertEqual((error.name, error.path, error.place), ("b", ("b", "c", "a"), "e"))

    def test_any_values(self):
        for error_class, fields in FIELDS.items():
            for value in ANY_VALUES:
                for error in (error_class(*[value] * len(fields)), error_class(**dict.fromkeys(fields, value))):
                    for field in fields:
                        self.assertIs(getattr(error, field), value)

    def test_errors_do_not_share_their_fields(self):
        first, second = InvalidProgram(1), InvalidProgram(2)
        self.assertEqual((first.line, second.line), (1, 2))

    def test_wrong_number_of_fields(self):
        for error_class, fields in FIELDS.items():
            for count in (0, len(fields) - 1, len(fields) + 1):
                with self.assertRaises(TypeError):
                    error_class(*range(count))
            with self.assertRaises(TypeError):
                error_class(*fields[1:], reason="x")


class ErrorFamilyTest(unittest.TestCase):
    def test_all_classes_are_listed(self):
        found = {value for value in vars(errors).values() if isinstance(value, type)}
        self.assertEqual(found, {MidfallError, *FIELDS})
        self.assertEqual({error_class.__module__ for error_class in found}, {"midfall.errors"})

    def test_each_is_a_midfall_error_and_a_value_error(self):
        self.assertTrue(issubclass(MidfallError, ValueError))
        for error_class, fields in FIELDS.items():
            error = error_class(*fields)
            self.assertIsInstance(error, MidfallError)
            self.assertIsInstance(error, ValueError)

    def test_none_is_a_subclass_of_another(self):
        for error_class in FIELDS:
            relatives = [other for other in FIELDS if issubclass(error_class, other)]
            self.assertEqual(relatives, [error_class])

    def test_none_is_another_error_of_python(self):
        for error_class in FIELDS:
            self.assertEqual(error_class.__mro__[1:3], (MidfallError, ValueError))

    def test_raised_and_caught(self):
        for error_class, fields in FIELDS.items():
            for caught in (error_class, MidfallError, ValueError):
                with self.assertRaises(caught) as context:
                    raise error_class(*fields)
                self.assertEqual([getattr(context.exception, field) for field in fields], list(fields))


if __name__ == "__main__":
    unittest.main()
