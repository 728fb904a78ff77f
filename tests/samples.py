"""Values that several tests use, and checks that they share."""

import unittest


def nested(kind, depth):
    """Return a value of this kind that is nested so many levels deep."""
    value = "a"
    for level in range(depth):
        if kind == "tuple":
            value = (value,)
        elif kind == "list":
            value = [value]
        elif kind == "dict":
            value = {"a": value}
        else:
            value = [(value,), [value], {"a": value}][level % 3]
    return value


def any_values():
    """Return new values of every kind that the document calls any value."""
    return [
        0, 1, 2, -1, 24, 1000, 10 ** 20, -(10 ** 20), 10 ** 5000,
        True, False, None,
        "", "a", "b", "zz", "abcdefgh", "abcdefghi", "A", "a b", "\t", "\n", "~", " ", "0", "insert",
        (), ("a",), ("a", "b"), ("b", "a"), ("a", "a"), ("a", 1), (True,), (None,), ((),), ((("a",),),),
        (("a",), ["a"]), (("a", ["b"]),), ({},), ([],), (0, 1), ((0, 1),), ([0, 1],),
        [], ["a"], ["a", "b"], [("a",)], [["a"]], [(0, 1)], [None],
        {}, {"a": 1}, {1: "a"}, {("a",): []}, {"a": {"b": ["c"]}},
        nested("tuple", 30), nested("list", 30), nested("dict", 30), nested("mixed", 30),
    ]


def letters_rows(many):
    """Return so many distinct rows, a, b, c, ... and then aa, ab, ac, ..."""
    letters = "abcdefghijklmnopqrstuvwxyz"
    return tuple((list(letters) + ["a" + letter for letter in letters])[:many])


def variants(value, change):
    """Return the values that differ from this one in one part, itself or an item at any depth.

    The function change returns a list of what may stand in place of the part.
    """
    found = list(change(value))
    if isinstance(value, tuple):
        for place, item in enumerate(value):
            for new in variants(item, change):
                found.append(value[:place] + (new,) + value[place + 1:])
    return found


def as_list(part):
    """Change a tuple into a list."""
    return [list(part)] if isinstance(part, tuple) else []


def as_bool(part):
    """Change a number that True or False equals into it."""
    return [bool(part)] if part.__class__ is int and part in (0, 1) else []


def as_other_number(part):
    """Change a number into its neighbours, its negative, and numbers far away."""
    return [part - 1, part + 1, -part - 1, part - 40, part + 40, 10 ** 20] if part.__class__ is int else []


def as_other_items(part):
    """Leave an item of a tuple out, repeat it, exchange it with the next one, add one."""
    if not isinstance(part, tuple):
        return []
    found = [part + ("a",), part + (0,), part + ((),), ("a",) + part, part + part, tuple(reversed(part))]
    for place in range(len(part)):
        found.append(part[:place] + part[place + 1:])
        found.append(part[:place] + part[place:place + 1] * 2 + part[place + 1:])
        found.append(part[:place] + part[place + 1:place + 2] + part[place:place + 1] + part[place + 2:])
    return found


def as_other_row(part):
    """Change a row into others: some live, some that have left, some never in a list."""
    return ["a", "b", "c", "x", "zz", "", "A"] if isinstance(part, str) else []


def as_any_value(part):
    """Change whatever it is into any value."""
    return any_values()


CHANGES = [as_list, as_bool, as_other_number, as_other_items, as_other_row, as_any_value]


class PagesTest(unittest.TestCase):
    def assert_raises_with(self, error, field, value, function, *arguments, **named):
        """Check that the call raises exactly this error, with exactly this value in its field."""
        try:
            result = function(*arguments, **named)
        except ValueError as raised:
            self.assertEqual(raised.__class__.__name__, error.__name__)
            self.assertIs(raised.__class__, error)
            self.assertEqual(list(vars(raised)), [field])
            self.assertEqual(vars(raised)[field], value)
            # True equals 1, so that equality is not enough.
            self.assertIs(vars(raised)[field].__class__, value.__class__)
        else:
            self.fail(f"returned {result!r} instead of raising {error.__name__}")
