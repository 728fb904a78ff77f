"""Values that several tests use, and checks that they share."""

import unittest


def nested(kind, depth):
    """Return a value of this kind that is nested so many levels deep."""
    value = "a"
    for level in range(depth):
        if kind == "tuple":
            value = (value,)
        elif kind == "list":
            value = [value]
        elif kind == "dict":
            value = {"a": value}
        else:
            value = [(value,), [value], {"a": value}][level % 3]
    return value


def any_values():
    """Return new values of every kind that the document calls any value."""
    return [
        0, 1, 2, -1, 24, 1000, 10 ** 20, -(10 ** 20), 10 ** 5000,
        True, False, None,
        "", "a", "b", "zz", "abcdefgh", "abcdefghi", "A", "a b", "\t", "\n", "~", " ", "0", "insert",
        (), ("a",), ("a", "b"), ("b", "a"), ("a", "a"), ("a", 1), (True,), (None,), ((),), ((("a",),),),
        (("a",), ["a"]), (("a", ["b"]),), ({},), ([],), (0, 1), ((0, 1),), ([0, 1],),
        [], ["a"], ["a", "b"], [("a",)], [["a"]], [(0, 1)], [None],
        {}, {"a": 1}, {1: "a"}, {("a",): []}, {"a": {"b": ["c"]}},
        nested("tuple", 30), nested("list", 30), nested("dict", 30), nested("mixed", 30),
    ]


def letters_rows(many):
    """Return so many distinct rows, a, b, c, ... and then aa, ab, ac, ..."""
    letters = "abcdefghijklmnopqrstuvwxyz"
    return tuple((list(letters) + ["a" + letter for letter in letters])[:many])


class PagesTest(unittest.TestCase):
    def assert_raises_with(self, error, field, value, function, *arguments):
        """Check that the call raises exactly this error, with exactly this value in its field."""
        try:
            result = function(*arguments)
        except ValueError as raised:
            self.assertEqual(raised.__class__.__name__, error.__name__)
            self.assertIs(raised.__class__, error)
            self.assertEqual(list(vars(raised)), [field])
            self.assertEqual(vars(raised)[field], value)
            # True equals 1, so that equality is not enough.
            self.assertIs(vars(raised)[field].__class__, value.__class__)
        else:
            self.fail(f"returned {result!r} instead of raising {error.__name__}")
