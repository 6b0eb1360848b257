"""Point 2: the errors and their fields."""

import unittest

from sameruns.basics import errors

FIELDS = {
    "BadText": ("line", "column"), "BadName": ("name",), "Twice": ("name",), "BadLength": ("name",),
    "BadNumber": ("number",), "Stray": ("function", "number"), "Unknown": ("name",), "Unlike": ("name",),
    "Missing": ("name",), "NoMain": (), "BadFlow": ("block", "position"), "BadSpot": ("index",),
    "BadSite": ("index",), "BadRow": ("index",), "BadLine": ("number",), "BadDepth": ("depth",),
    "BadBase": ("base",), "BadPass": ("name",), "TooMany": ("most",), "BadFree": ("free",), "NoUnit": ("name",),
}


class ErrorsTest(unittest.TestCase):
    def test_fields_are_passed_by_position(self):
        for name, fields in FIELDS.items():
            given = list(range(7, 7 + len(fields)))
            error = getattr(errors, name)(*given)
            self.assertEqual([getattr(error, field) for field in fields], given, name)
            self.assertEqual(list(vars(error)), list(fields), name)

    def test_place_of_the_classes(self):
        self.assertEqual(errors.RunsError.__bases__, (ValueError,))
        for name in FIELDS:
            self.assertEqual(getattr(errors, name).__bases__, (errors.RunsError,), name)

    def test_can_be_caught_by_the_base(self):
        for base in (errors.RunsError, ValueError):
            with self.assertRaises(base):
                raise errors.Stray("f", 3)

    def test_there_are_no_others(self):
        found = [name for name, value in vars(errors).items() if isinstance(value, type)]
        self.assertEqual(sorted(found), sorted([*FIELDS, "RunsError"]))


if __name__ == "__main__":
    unittest.main()
