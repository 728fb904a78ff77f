"""Rows, versions, histories, row sets."""

from itertools import product

from movingpages.rows import is_history, is_row, is_row_set, is_version, live_rows
from tests.samples import PagesTest, any_values, letters_rows, nested

VERSIONS_OF_TWO = [(), ("a",), ("b",), ("a", "b"), ("b", "a")]


class RowTest(PagesTest):
    def test_lengths(self):
        told = [is_row("a" * many) for many in (0, 1, 2, 7, 8, 9, 10)]
        self.assertEqual(told, [False, True, True, True, True, False, False])

    def test_every_character(self):
        for code in [9, 10, *range(32, 127)]:
            inside = 97 <= code <= 122
            for text in (chr(code), "a" + chr(code), chr(code) + "z", "ab" + chr(code) + "yz"):
                self.assertIs(is_row(text), inside, repr(text))

    def test_letters_of_other_alphabets(self):
        for text in ("\u00e9", "a\u00df", "\u0430", "\uff41"):
            self.assertIs(is_row(text), False, repr(text))

    def test_any_value(self):
        rows = ["a", "b", "zz", "abcdefgh", "insert"]
        for value in any_values():
            self.assertIs(is_row(value), isinstance(value, str) and value in rows)


class VersionTest(PagesTest):
    def test_lengths(self):
        told = [is_version(letters_rows(many)) for many in (0, 1, 23, 24, 25, 26)]
        self.assertEqual(told, [True, True, True, True, False, False])

    def test_a_row_twice(self):
        for value in [("a", "a"), ("a", "b", "a"), ("b", "a", "a"), letters_rows(23) + ("a",)]:
            self.assertIs(is_version(value), False)

    def test_a_wrong_item_at_every_place(self):
        for value in any_values():
            if is_row(value):
                continue
            for version in [(value,), (value, "x"), ("x", value), ("x", value, "y"), (value, value)]:
                self.assertIs(is_version(version), False)

    def test_any_order(self):
        for version in [("b", "a"), ("a", "b"), ("zzz", "b", "aa", "a")]:
            self.assertIs(is_version(version), True)

    def test_a_list_or_a_string_is_no_version(self):
        for value in [[], ["a"], ["a", "b"], "", "a", "ab", {}, {"a": "b"}]:
            self.assertIs(is_version(value), False)

    def test_any_value(self):
        versions = [(), ("a",), ("a", "b"), ("b", "a"), nested("tuple", 1)]
        for value in any_values():
            self.assertIs(is_version(value), isinstance(value, tuple) and value in versions)


def keeps_rows_away(versions):
    """Check the words of the document: a row of i that j lacks is in no version after j."""
    for i in range(len(versions)):
        for j in range(i + 1, len(versions)):
            for k in range(j + 1, len(versions)):
                for row in versions[i]:
                    if row not in versions[j] and row in versions[k]:
                        return False
    return True


class HistoryTest(PagesTest):
    def test_lengths(self):
        for many, expected in [(0, False), (1, True), (2, True), (39, True), (40, True), (41, False)]:
            self.assertIs(is_history((("a",),) * many), expected, many)
            self.assertIs(is_history(((),) * many), expected, many)

    def test_every_short_history_of_two_rows(self):
        for many in (1, 2, 3, 4, 5):
            for versions in product(VERSIONS_OF_TWO, repeat=many):
                self.assertIs(is_history(versions), keeps_rows_away(versions), versions)

    def test_a_row_comes_back(self):
        self.assertIs(is_history((("a", "b"), ("b",), ("a", "b"))), False)
        self.assertIs(is_history((("a", "b"), ("b",), ("b",), ("b", "a"))), False)
        self.assertIs(is_history((("b",), ("a", "b"), ("b",), ("c", "b"), ("c", "a"))), False)
        self.assertIs(is_history((("b",), ("a", "b"), ("b",), ("c", "b"), ("c", "d"))), True)

    def test_a_row_comes_back_in_the_last_of_forty_versions(self):
        between = (("b",),) * 38
        self.assertIs(is_history((("a", "b"),) + between + (("a", "b"),)), False)
        self.assertIs(is_history((("a", "b"),) + between + (("c", "b"),)), True)

    def test_versions_of_24_and_25_rows(self):
        self.assertIs(is_history((("a",), letters_rows(24))), True)
        self.assertIs(is_history((("a",), letters_rows(25))), False)

    def test_a_wrong_version_at_every_place(self):
        for value in any_values():
            if is_version(value):
                continue
            for history in [(value,), (value, ("x",)), (("x",), value), (("x",), value, ("x",))]:
                self.assertIs(is_history(history), False)

    def test_a_list_at_every_depth(self):
        for value in [[("a",), ("b",)], (["a"], ("b",)), (("a",), ["b"]), (("a",), (["b"],)), [["a"]], []]:
            self.assertIs(is_history(value), False)

    def test_any_value(self):
        for value in any_values():
            expected = isinstance(value, tuple) and value == ((),)
            self.assertIs(is_history(value), expected)
        self.assertIs(is_history((("a",),)), True)


class LiveRowsTest(PagesTest):
    def test_rows_of_the_last_version_ascending(self):
        self.assertEqual(live_rows((("a", "b", "c"),)), ("a", "b", "c"))
        self.assertEqual(live_rows((("x",), ("b", "ab", "a", "aa"))), ("a", "aa", "ab", "b"))
        self.assertEqual(live_rows((("a", "b"), ())), ())
        self.assertEqual(live_rows((tuple(reversed(letters_rows(24))),)), letters_rows(24))

    def test_it_is_a_tuple(self):
        self.assertIsInstance(live_rows((("a",),)), tuple)


class RowSetTest(PagesTest):
    history = (("a", "b", "x"), ("d", "b", "a", "c"))

    def test_every_tuple_of_at_most_three_rows(self):
        for many in (0, 1, 2, 3):
            for value in product(("a", "b", "c", "d", "x", "y"), repeat=many):
                ascending = all(value[at] < value[at + 1] for at in range(many - 1))
                expected = ascending and "x" not in value and "y" not in value
                self.assertIs(is_row_set(self.history, value), expected, value)

    def test_all_live_rows(self):
        self.assertIs(is_row_set(self.history, ("a", "b", "c", "d")), True)
        self.assertIs(is_row_set(self.history, ("a", "b", "c", "d", "d")), False)
        self.assertIs(is_row_set((letters_rows(24),), letters_rows(24)), True)

    def test_no_live_rows(self):
        self.assertIs(is_row_set((("a",), ()), ()), True)
        self.assertIs(is_row_set((("a",), ()), ("a",)), False)

    def test_a_list_at_every_depth(self):
        for value in [[], ["a"], ["a", "b"], (["a"],), ("a", ["b"]), (("a",),), "a", "ab"]:
            self.assertIs(is_row_set(self.history, value), False)

    def test_a_wrong_item_at_every_place(self):
        for value in any_values():
            if isinstance(value, str) and value in ("a", "b"):
                continue
            for rows in [(value,), (value, "d"), ("a", value), ("a", value, "d"), ("a", "b", value)]:
                self.assertIs(is_row_set(self.history, rows), False)

    def test_any_value(self):
        for value in any_values():
            expected = isinstance(value, tuple) and value in [(), ("a",), ("a", "b")]
            self.assertIs(is_row_set(self.history, value), expected)
