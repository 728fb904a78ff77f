"""Beginnings and paths."""

from movingpages.errors import MissingRow
from movingpages.paths import all_paths, beginning_of, is_path, paths_to
from movingpages.reach import last_rows
from movingpages.states import is_reachable
from tests.histories import (
    DOCUMENT, EDGES, canonical, defined_path_sets, defined_paths, edited_history, long_history, rotations, row_sets_of,
    small_histories, walked_sets,
)
from tests.samples import CHANGES, PagesTest, any_values, as_list, letters_rows, variants

LEFT = EDGES["rows that left before each live row"]
LATE = EDGES["rows inserted late"]


class BeginningTest(PagesTest):
    def test_against_the_definition(self):
        for history in small_histories():
            for number, version in enumerate(history):
                for place, row in enumerate(version):
                    if row in history[-1]:
                        expected = tuple(sorted(set(version[:place + 1]).intersection(history[-1])))
                        self.assertEqual(beginning_of(history, number, row), expected)
                        self.assertIs(is_reachable(history, expected), True)

    def test_rows_that_left_are_in_no_beginning(self):
        self.assertEqual([beginning_of(LEFT, 0, row) for row in "abc"], [("a",), ("a", "b"), ("a", "b", "c")])
        self.assertEqual(beginning_of(LEFT, 1, "c"), ("c",))

    def test_rows_that_left(self):
        for number, row in [(0, "x"), (0, "y"), (0, "z"), (1, "z"), (2, "z"), (2, "x")]:
            self.assert_raises_with(MissingRow, "row", row, beginning_of, LEFT, number, row)

    def test_live_rows_that_the_version_lacks(self):
        for number, row in [(0, "a"), (0, "c"), (0, "d"), (1, "c"), (2, "d")]:
            self.assert_raises_with(MissingRow, "row", row, beginning_of, LATE, number, row)
        self.assertEqual(beginning_of(LATE, 2, "b"), ("b", "c"))
        self.assertEqual(beginning_of(LATE, 3, "d"), ("b", "c", "d"))

    def test_any_value_as_row(self):
        for row in any_values():
            for number, version in enumerate(DOCUMENT):
                if row.__class__ is str and row in ("a", "b"):
                    self.assertIn(row, beginning_of(DOCUMENT, number, row))
                else:
                    self.assert_raises_with(MissingRow, "row", row, beginning_of, DOCUMENT, number, row)
            self.assert_raises_with(MissingRow, "row", row, beginning_of, ((),), 0, row)
            self.assert_raises_with(MissingRow, "row", row, beginning_of, (("a", "b"), ()), 0, row)

    def test_24_rows_and_40_versions(self):
        rows = letters_rows(24)
        self.assertEqual(beginning_of(rotations(24, 40), 39, rows[14]), tuple(sorted(rows[15:] + rows[:15])))
        self.assertEqual(beginning_of(rotations(24, 40), 39, rows[15]), rows[15:16])


class PathsTest(PagesTest):
    def test_against_the_definition(self):
        for history in small_histories():
            expected = defined_paths(history)
            self.assertEqual(all_paths(history), expected)
            for row in history[-1]:
                paths = tuple(path for other, path in expected if other == row)
                self.assertEqual(paths_to(history, row), paths)
                self.assertGreater(len(paths), 0)
                self.assertEqual(paths, canonical(set(paths)))

    def test_no_proper_subset_is_a_beginning_of_the_row(self):
        for history in small_histories():
            for row in history[-1]:
                numbers = [number for number, version in enumerate(history) if row in version]
                beginnings = {beginning_of(history, number, row) for number in numbers}
                smallest = [one for one in beginnings if not any(set(other) < set(one) for other in beginnings)]
                self.assertEqual(paths_to(history, row), canonical(smallest))

    def test_what_the_document_says_of_paths(self):
        for history in small_histories():
            for row, path in all_paths(history):
                self.assertEqual(last_rows(history, path), (row,))
            for rows in walked_sets(history):
                inside = [path for row, path in all_paths(history) if set(path) <= set(rows)]
                self.assertEqual(tuple(sorted(set().union(*inside))), rows)

    def test_equal_beginnings_count_once(self):
        history = (("b", "c", "a"), ("c", "b", "a"), ("b", "c", "a"))
        self.assertEqual(paths_to(history, "a"), (("a", "b", "c"),))
        self.assertEqual(paths_to(history, "b"), (("b",),))

    def test_several_paths_of_one_row(self):
        history = (("b", "d", "x"), ("c", "a", "d", "b"), ("a", "e", "d", "b", "c"))
        self.assertEqual(paths_to(history, "d"), (("b", "d"), ("a", "c", "d"), ("a", "d", "e")))

    def test_no_live_rows(self):
        for history in [((),), ((), ()), (("a", "b"), ())]:
            self.assertEqual(all_paths(history), ())

    def test_rows_that_are_not_live(self):
        for row in ("x", "y", "z", "d"):
            self.assert_raises_with(MissingRow, "row", row, paths_to, LEFT, row)
        self.assertEqual(paths_to(LATE, "d"), (("b", "c", "d"),))

    def test_any_value_as_row(self):
        for row in any_values():
            if row.__class__ is str and row in ("a", "b"):
                self.assertEqual(paths_to(DOCUMENT, row), ((row,),))
            else:
                self.assert_raises_with(MissingRow, "row", row, paths_to, DOCUMENT, row)
            self.assert_raises_with(MissingRow, "row", row, paths_to, ((),), row)
            self.assert_raises_with(MissingRow, "row", row, paths_to, (("a", "b"), ()), row)

    def test_24_rows_and_40_versions(self):
        rows = letters_rows(24)
        self.assertEqual(all_paths(rotations(24, 40)), tuple((row, (row,)) for row in rows))
        self.assertEqual(all_paths((rows,) * 40), tuple((rows[at], rows[:at + 1]) for at in range(24)))
        for seed in range(3):
            history = long_history(seed)
            for row in history[-1]:
                beginnings = {tuple(sorted(version[:version.index(row) + 1])) for version in history}
                smallest = [one for one in beginnings if not any(set(other) < set(one) for other in beginnings)]
                self.assertEqual(paths_to(history, row), canonical(smallest))

    def test_they_are_tuples(self):
        found = all_paths(DOCUMENT)
        self.assertEqual({found.__class__, *(pair.__class__ for pair in found)}, {tuple})
        self.assertEqual({path.__class__ for row, path in found}, {tuple})
        self.assertIs(paths_to(DOCUMENT, "c").__class__, tuple)


class IsPathTest(PagesTest):
    histories = [DOCUMENT, *EDGES.values(), *(edited_history(seed) for seed in range(20))]

    def test_every_row_set(self):
        for history in small_histories():
            paths = defined_path_sets(history)
            for rows in row_sets_of(history):
                self.assertIs(is_path(history, rows), rows in paths)

    def test_any_value(self):
        for history in self.histories:
            paths = defined_path_sets(history)
            for value in any_values():
                self.assertIs(is_path(history, value), value.__class__ is tuple and value in paths)

    def test_changed_paths(self):
        for history in self.histories:
            paths = defined_path_sets(history)
            for path in paths:
                for change in CHANGES:
                    for value in variants(path, change):
                        self.assertIs(is_path(history, value), value.__class__ is tuple and value in paths)

    def test_a_list_is_no_path(self):
        for history in self.histories:
            for path in defined_path_sets(history):
                self.assertIs(is_path(history, path), True)
                for value in variants(path, as_list) + [[path], (path,), path[0]]:
                    self.assertIs(is_path(history, value), False)

    def test_wrong_rows(self):
        for value in [(), ("b", "a", "d"), ("a", "b", "d", "d"), ("d",), ("x",), ("a", "x"), ("a", "d"), "a", ("ab",)]:
            self.assertIs(is_path(DOCUMENT, value), False)
        for value in [("x",), ("a", "x"), ("c", "z"), ("x", "a")]:
            self.assertIs(is_path(LEFT, value), False)

    def test_24_rows_and_40_versions(self):
        rows = letters_rows(24)
        for many in range(25):
            self.assertIs(is_path((rows,) * 40, rows[:many]), many > 0)
            self.assertIs(is_path(rotations(24, 40), rows[:many]), many == 1)
