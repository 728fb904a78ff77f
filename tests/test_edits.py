"""Edits of versions and of histories."""

from itertools import permutations

from movingpages.edits import extend_history, insert_row, move_row, remove_row
from movingpages.errors import BadEdit, BadIndex, BadRow, DuplicateRow, MissingRow, ReturnedRow, TooLong
from movingpages.rows import is_row
from tests.samples import PagesTest, any_values, letters_rows

FULL = letters_rows(24)


def is_index(value, last):
    return value.__class__ is int and 0 <= value <= last


class InsertTest(PagesTest):
    def test_every_index(self):
        self.assertEqual(insert_row((), "x", 0), ("x",))
        self.assertEqual(insert_row(("a", "b", "c"), "x", 0), ("x", "a", "b", "c"))
        self.assertEqual(insert_row(("a", "b", "c"), "x", 1), ("a", "x", "b", "c"))
        self.assertEqual(insert_row(("a", "b", "c"), "x", 2), ("a", "b", "x", "c"))
        self.assertEqual(insert_row(("a", "b", "c"), "x", 3), ("a", "b", "c", "x"))

    def test_the_24th_row(self):
        self.assertEqual(insert_row(FULL[:23], "x", 23), FULL[:23] + ("x",))
        self.assertEqual(insert_row(FULL[:23], "x", 0), ("x",) + FULL[:23])

    def test_indexes_just_outside(self):
        for version in [(), ("a",), ("a", "b", "c"), FULL[:23], FULL]:
            for index in (-1, len(version) + 1):
                self.assert_raises_with(BadIndex, "index", index, insert_row, version, "zz", index)

    def test_true_and_false_are_no_indexes(self):
        for index in (True, False):
            self.assert_raises_with(BadIndex, "index", index, insert_row, ("a", "b"), "c", index)

    def test_any_value_as_index(self):
        for index in any_values():
            if is_index(index, 2):
                self.assertEqual(insert_row(("a", "b"), "c", index)[index], "c")
            else:
                self.assert_raises_with(BadIndex, "index", index, insert_row, ("a", "b"), "c", index)

    def test_any_value_as_row(self):
        for row in any_values():
            if is_row(row):
                self.assertEqual(insert_row(("x", "y"), row, 1), ("x", row, "y"))
            else:
                self.assert_raises_with(BadRow, "row", row, insert_row, ("x", "y"), row, 1)

    def test_a_row_that_is_there(self):
        for row in ("a", "b", "c"):
            self.assert_raises_with(DuplicateRow, "row", row, insert_row, ("a", "b", "c"), row, 0)

    def test_a_full_version(self):
        for index in (0, 1, 23, 24):
            self.assert_raises_with(TooLong, "limit", 24, insert_row, FULL, "zz", index)

    def test_the_first_of_several_errors(self):
        for index in (-1, 25, True, None, [], {}):
            self.assert_raises_with(BadRow, "row", "A", insert_row, FULL, "A", index)
            self.assert_raises_with(BadRow, "row", [index], insert_row, FULL, [index], index)
            self.assert_raises_with(DuplicateRow, "row", "a", insert_row, FULL, "a", index)
            self.assert_raises_with(BadIndex, "index", index, insert_row, FULL, "zz", index)
        self.assert_raises_with(BadRow, "row", {}, insert_row, FULL, {}, 0)
        self.assert_raises_with(DuplicateRow, "row", "a", insert_row, FULL, "a", 0)


class RemoveTest(PagesTest):
    def test_every_row(self):
        self.assertEqual(remove_row(("a", "b", "c"), "a"), ("b", "c"))
        self.assertEqual(remove_row(("a", "b", "c"), "b"), ("a", "c"))
        self.assertEqual(remove_row(("a", "b", "c"), "c"), ("a", "b"))
        self.assertEqual(remove_row(("a",), "a"), ())
        self.assertEqual(remove_row(FULL, FULL[23]), FULL[:23])

    def test_a_row_that_is_not_there(self):
        self.assert_raises_with(MissingRow, "row", "a", remove_row, (), "a")
        self.assert_raises_with(MissingRow, "row", "d", remove_row, ("a", "b", "c"), "d")
        self.assert_raises_with(MissingRow, "row", "ab", remove_row, ("a", "b", "abc"), "ab")

    def test_any_value_as_row(self):
        for row in any_values():
            if isinstance(row, str) and row == "b":
                self.assertEqual(remove_row(("x", "b"), row), ("x",))
            else:
                self.assert_raises_with(MissingRow, "row", row, remove_row, ("x", "b"), row)


class MoveTest(PagesTest):
    def test_every_row_and_index(self):
        for version in permutations(("a", "b", "c", "d")):
            for row in version:
                for index in range(4):
                    moved = move_row(version, row, index)
                    self.assertIsInstance(moved, tuple)
                    self.assertEqual(moved[index], row)
                    self.assertEqual([other for other in moved if other != row],
                                     [other for other in version if other != row])

    def test_one_row_and_24_rows(self):
        self.assertEqual(move_row(("a",), "a", 0), ("a",))
        self.assertEqual(move_row(FULL, "a", 23), FULL[1:] + ("a",))
        self.assertEqual(move_row(FULL, FULL[23], 0), FULL[23:] + FULL[:23])

    def test_indexes_just_outside(self):
        for version in [("a",), ("a", "b", "c"), FULL]:
            for index in (-1, len(version), len(version) + 1):
                self.assert_raises_with(BadIndex, "index", index, move_row, version, "a", index)

    def test_any_value_as_index(self):
        for index in any_values():
            if is_index(index, 1):
                self.assertEqual(move_row(("a", "b"), "a", index)[index], "a")
            else:
                self.assert_raises_with(BadIndex, "index", index, move_row, ("a", "b"), "a", index)

    def test_any_value_as_row(self):
        for row in any_values():
            if isinstance(row, str) and row == "b":
                self.assertEqual(move_row(("x", "b"), row, 0), ("b", "x"))
            else:
                self.assert_raises_with(MissingRow, "row", row, move_row, ("x", "b"), row, 0)

    def test_the_first_of_several_errors(self):
        for index in (-1, 2, True, False, None, [], {}):
            for row in ("c", "A", "", None, [], {}):
                self.assert_raises_with(MissingRow, "row", row, move_row, ("a", "b"), row, index)
        self.assert_raises_with(MissingRow, "row", "a", move_row, (), "a", 0)


class ExtendTest(PagesTest):
    history = (("a", "b", "c"), ("b", "c"))
    long_history = (("a", "b"),) + (("b",),) * 39

    def assert_extends(self, history, edit, version):
        self.assertEqual(extend_history(history, edit), history + (version,))

    def test_the_three_edits(self):
        self.assert_extends(self.history, ("insert", "d", 0), ("d", "b", "c"))
        self.assert_extends(self.history, ("insert", "d", 1), ("b", "d", "c"))
        self.assert_extends(self.history, ("insert", "d", 2), ("b", "c", "d"))
        self.assert_extends(self.history, ("remove", "b"), ("c",))
        self.assert_extends(self.history, ("remove", "c"), ("b",))
        self.assert_extends(self.history, ("move", "b", 1), ("c", "b"))
        self.assert_extends(self.history, ("move", "b", 0), ("b", "c"))
        self.assert_extends(((),), ("insert", "d", 0), ("d",))

    def test_the_40th_version(self):
        history = self.long_history[:39]
        self.assert_extends(history, ("insert", "c", 0), ("c", "b"))
        self.assert_extends(history, ("remove", "b"), ())
        self.assert_extends(history, ("move", "b", 0), ("b",))

    def test_wrong_edits(self):
        wrong = [
            (), ("insert",), ("insert", "d"), ("insert", "d", 0, 0), ("remove",), ("remove", "b", 0),
            ("move",), ("move", "b"), ("move", "b", 0, 0), ("Insert", "d", 0), ("insert ", "d", 0),
            ("", "d", 0), ("swap", "b", "c"), ("d", "insert", 0), (0, "b", 0), (True, "b"), (None, "b"),
            (["insert"], "d", 0), (("insert",), "d", 0), ({"insert": 3}, "d", 0), ([], "b"), ({}, "b"),
            ["insert", "d", 0], ["remove", "b"], ["move", "b", 0], "insert", "remove b", {"remove": "b"},
            (("remove", "b"),),
        ]
        for edit in wrong + any_values():
            self.assert_raises_with(BadEdit, "edit", edit, extend_history, self.history, edit)
            self.assert_raises_with(BadEdit, "edit", edit, extend_history, self.long_history, edit)

    def test_any_value_as_first_item(self):
        for word in any_values():
            for edit in [(word,), (word, "b", 0, 0)]:
                self.assert_raises_with(BadEdit, "edit", edit, extend_history, self.history, edit)
            for edit in [(word, "b"), (word, "d", 0)]:
                if not (isinstance(word, str) and word == "insert" and len(edit) == 3):
                    self.assert_raises_with(BadEdit, "edit", edit, extend_history, self.history, edit)

    def test_a_long_history(self):
        edits = [
            ("insert", "c", 0), ("insert", "a", 0), ("insert", "a", 9), ("insert", "b", 0), ("insert", "A", 0),
            ("insert", [], {}), ("remove", "b"), ("remove", "x"), ("remove", []), ("move", "b", 0),
            ("move", "b", 9), ("move", {}, []),
        ]
        for edit in edits:
            self.assert_raises_with(TooLong, "limit", 40, extend_history, self.long_history, edit)

    def test_a_row_that_has_left(self):
        for index in (0, 2, 7, -1, True, None, [], {}):
            edit = ("insert", "a", index)
            self.assert_raises_with(ReturnedRow, "row", "a", extend_history, self.history, edit)
        # Rows that left before the last but one version, and into a full version.
        history = (("a", "b"), ("b", "c"), ("c",), FULL[2:] + ("x", "y"))
        for row in ("a", "b"):
            self.assert_raises_with(ReturnedRow, "row", row, extend_history, history, ("insert", row, 0))

    def test_only_inserted_rows_return(self):
        self.assert_raises_with(MissingRow, "row", "a", extend_history, self.history, ("remove", "a"))
        self.assert_raises_with(MissingRow, "row", "a", extend_history, self.history, ("move", "a", 9))

    def test_errors_of_the_edit(self):
        expected = [
            (BadRow, "row", "A", ("insert", "A", 9)),
            (BadRow, "row", None, ("insert", None, 0)),
            (DuplicateRow, "row", "b", ("insert", "b", 9)),
            (DuplicateRow, "row", "b", ("insert", "b", 0)),
            (BadIndex, "index", 3, ("insert", "d", 3)),
            (BadIndex, "index", -1, ("insert", "d", -1)),
            (BadIndex, "index", True, ("insert", "d", True)),
            (MissingRow, "row", "d", ("remove", "d")),
            (MissingRow, "row", "d", ("move", "d", 9)),
            (BadIndex, "index", 2, ("move", "b", 2)),
            (BadIndex, "index", False, ("move", "b", False)),
        ]
        for error, field, value, edit in expected:
            self.assert_raises_with(error, field, value, extend_history, self.history, edit)
        self.assert_raises_with(TooLong, "limit", 24, extend_history, (FULL,), ("insert", "zz", 0))

    def test_any_value_in_an_edit(self):
        history = (("x", "y"),)
        for value in any_values():
            if not is_row(value):
                self.assert_raises_with(BadRow, "row", value, extend_history, history, ("insert", value, 0))
            self.assert_raises_with(MissingRow, "row", value, extend_history, history, ("remove", value))
            self.assert_raises_with(MissingRow, "row", value, extend_history, history, ("move", value, value))
            if not is_index(value, 2):
                self.assert_raises_with(BadIndex, "index", value, extend_history, history, ("insert", "z", value))
            if not is_index(value, 1):
                self.assert_raises_with(BadIndex, "index", value, extend_history, history, ("move", "x", value))
