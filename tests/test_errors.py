"""The error classes."""

import movingpages.errors
from tests.samples import PagesTest, any_values

FIELDS = {
    "BadRow": "row",
    "DuplicateRow": "row",
    "MissingRow": "row",
    "ReturnedRow": "row",
    "BadIndex": "index",
    "TooLong": "limit",
    "BadEdit": "edit",
    "Unreachable": "rows",
    "TooMany": "most",
    "BadChain": "chain",
    "BadToken": "token",
    "DifferentLists": "version",
    "BadVersion": "version",
    "NoDevice": "device",
    "BadCount": "count",
    "BadRows": "rows",
    "BadText": "line",
    "BadLine": "line",
}


class ErrorsTest(PagesTest):
    def test_the_classes_are_those_of_the_document(self):
        names = [name for name in vars(movingpages.errors) if not name.startswith("__")]
        self.assertEqual(sorted(names), sorted([*FIELDS, "PagesError"]))
        self.assertEqual(len(FIELDS), 18)

    def test_bases(self):
        self.assertEqual(movingpages.errors.PagesError.__bases__, (ValueError,))
        for name in FIELDS:
            error = getattr(movingpages.errors, name)
            self.assertEqual(error.__bases__, (movingpages.errors.PagesError,), name)

    def test_by_position(self):
        for name, field in FIELDS.items():
            for value in any_values():
                raised = getattr(movingpages.errors, name)(value)
                self.assertEqual(list(vars(raised)), [field], name)
                self.assertIs(getattr(raised, field), value, name)

    def test_by_name(self):
        for name, field in FIELDS.items():
            for value in any_values():
                raised = getattr(movingpages.errors, name)(**{field: value})
                self.assertEqual(list(vars(raised)), [field], name)
                self.assertIs(getattr(raised, field), value, name)

    def test_exactly_one_argument(self):
        for name in FIELDS:
            error = getattr(movingpages.errors, name)
            self.assertRaises(TypeError, error)
            self.assertRaises(TypeError, error, 1, 2)
            self.assertRaises(TypeError, error, other=1)

    def test_raised_and_caught_by_every_base(self):
        for name in FIELDS:
            error = getattr(movingpages.errors, name)
            for caught in (error, movingpages.errors.PagesError, ValueError):
                with self.assertRaises(caught):
                    raise error("a")

    def test_no_error_catches_another_one(self):
        for name in FIELDS:
            for other in FIELDS:
                raised = getattr(movingpages.errors, name)("a")
                self.assertEqual(isinstance(raised, getattr(movingpages.errors, other)), name == other)
