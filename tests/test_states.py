"""Prefix lengths, reachable sets and their certificates."""

from itertools import product

from movingpages.states import (
    find_blockers, find_supports, is_reachable, prefix_lengths, shows_reachable, shows_unreachable,
)
from tests.histories import (
    DOCUMENT, EDGES, before_in, defined_reachable, defined_shows_reachable, defined_shows_unreachable, edited_history,
    fewer_histories, long_history, rotations, row_sets_of, small_histories, supports,
)
from tests.samples import CHANGES, PagesTest, any_values, as_bool, as_list, letters_rows, variants

LEFT = EDGES["rows that left before each live row"]
REVERSE = EDGES["a version and its reverse"]


class PrefixTest(PagesTest):
    def test_rows_that_left_do_not_end_a_prefix(self):
        self.assertEqual(prefix_lengths(LEFT, ()), (1, 1, 0))
        self.assertEqual(prefix_lengths(LEFT, ("a",)), (3, 1, 0))
        self.assertEqual(prefix_lengths(LEFT, ("a", "b")), (5, 1, 1))
        self.assertEqual(prefix_lengths(LEFT, ("a", "b", "c")), (6, 4, 3))
        self.assertEqual(prefix_lengths((("x", "y"), ("y",), ()), ()), (2, 1, 0))
        self.assertEqual(prefix_lengths((("x", "a", "y"), ("a", "y"), ("a",)), ("a",)), (3, 2, 1))

    def test_rows_that_are_not_there_yet_do_not_end_a_prefix(self):
        history = EDGES["rows inserted late"]
        self.assertEqual(prefix_lengths(history, ("b",)), (1, 1, 0, 0))
        self.assertEqual(prefix_lengths(history, ("a", "b")), (1, 2, 0, 0))
        self.assertEqual(prefix_lengths(history, ("b", "c")), (1, 1, 2, 2))

    def test_against_the_definition(self):
        for history in small_histories():
            live = history[-1]
            for rows in row_sets_of(history):
                expected = tuple(
                    max(many for many in range(len(version) + 1)
                        if all(row in rows for row in version[:many] if row in live))
                    for version in history
                )
                self.assertEqual(prefix_lengths(history, rows), expected)

    def test_24_rows_and_40_versions(self):
        rows = letters_rows(24)
        history = rotations(24, 40)
        self.assertEqual(prefix_lengths(history, rows), (24,) * 40)
        self.assertEqual(prefix_lengths(history, ()), (0,) * 40)
        expected = [1 if number in (23, 0, 24) else 0 for number in range(40)]
        expected[23] = 2
        self.assertEqual(prefix_lengths(history, (rows[0], rows[23])), tuple(expected))


class ReachableTest(PagesTest):
    def test_any_value(self):
        for history in [DOCUMENT, *EDGES.values()]:
            for value in any_values():
                self.assertIs(is_reachable(history, value), defined_reachable(history, value))

    def test_changed_row_sets(self):
        for history in [DOCUMENT, *EDGES.values()]:
            for rows in row_sets_of(history):
                for change in CHANGES:
                    for value in variants(rows, change):
                        self.assertIs(is_reachable(history, value), defined_reachable(history, value))

    def test_a_list_is_no_row_set(self):
        for value in [[], ["a"], ["a", "b"], (["a"],), ("a", ["b"]), [("a",)]]:
            self.assertIs(is_reachable(DOCUMENT, value), False)

    def test_rows_in_another_order_or_twice(self):
        for value in [("b", "a"), ("a", "a"), ("a", "b", "b"), ("b", "a", "c"), ("a", "b", "d", "c")]:
            self.assertIs(is_reachable(DOCUMENT, value), False)

    def test_rows_that_left_are_in_no_set_and_block_nothing(self):
        for value in [("x",), ("a", "x"), ("a", "x", "y"), ("a", "b", "x", "y")]:
            self.assertIs(is_reachable(LEFT, value), False)
        for value in [("a",), ("b",), ("c",), ("a", "b"), ("a", "c"), ("b", "c")]:
            self.assertIs(is_reachable(LEFT, value), True)

    def test_no_live_rows(self):
        for history in [((),), ((), ()), (("a",), ())]:
            self.assertIs(is_reachable(history, ()), True)
            self.assertIs(is_reachable(history, ("a",)), False)

    def test_24_rows_and_40_versions(self):
        rows = letters_rows(24)
        for place in range(24):
            self.assertIs(is_reachable(rotations(24, 40), rows[place:place + 1]), True)
            self.assertIs(is_reachable((rows,) * 40, rows[:place]), True)
            self.assertIs(is_reachable((rows,) * 40, rows[place:]), place == 0)
        # Only the last of 40 versions starts with the last row.
        late = (rows,) * 39 + (rows[23:] + rows[:23],)
        self.assertIs(is_reachable(late, rows[23:]), True)
        self.assertEqual(find_supports(late, rows[23:]), (39,))
        self.assertIs(shows_reachable(late, rows[23:], (39,)), True)
        self.assertIs(shows_reachable(late, rows[23:], (40,)), False)
        self.assertIs(shows_reachable(late, rows[23:], (-1,)), False)


class FindTest(PagesTest):
    """What find_supports and find_blockers return is given exactly."""

    def test_against_the_definitions(self):
        for history in small_histories():
            numbers = range(len(history))
            for rows in row_sets_of(history):
                each = [[number for number in numbers if supports(history, rows, number, row)] for row in rows]
                if all(each):
                    self.assertEqual(find_supports(history, rows), tuple(some[0] for some in each))
                    self.assertIsNone(find_blockers(history, rows))
                    continue
                self.assertIsNone(find_supports(history, rows))
                row = [row for row, some in zip(rows, each) if not some][0]
                pairs = []
                for number in numbers:
                    if row in history[number]:
                        missing = [other for other in before_in(history, number, row) if other not in rows]
                        pairs.append((number, missing[0]))
                self.assertEqual(find_blockers(history, rows), (row, tuple(pairs)))

    def test_rows_that_left_block_nothing(self):
        history = (("x", "a", "y", "b"), ("y", "a", "x", "b"), ("a", "b"))
        self.assertEqual(find_blockers(history, ("b",)), ("b", ((0, "a"), (1, "a"), (2, "a"))))
        self.assertEqual(find_supports(history, ("a",)), (0,))

    def test_only_versions_that_contain_the_row(self):
        history = (("b",), ("b", "x"), ("b", "c", "a"), ("c", "b", "a"))
        self.assertEqual(find_blockers(history, ("a", "b")), ("a", ((2, "c"), (3, "c"))))
        self.assertEqual(find_supports(history, ("b", "c")), (0, 2))
        self.assertEqual(find_supports(history, ("c",)), (3,))

    def test_the_empty_set(self):
        for history in [DOCUMENT, *EDGES.values()]:
            self.assertEqual(find_supports(history, ()), ())
            self.assertIsNone(find_blockers(history, ()))

    def test_they_are_tuples(self):
        self.assertIs(find_supports(DOCUMENT, ("a",)).__class__, tuple)
        row, pairs = find_blockers(DOCUMENT, ("c",))
        self.assertEqual([row, pairs.__class__, pairs[0].__class__], ["c", tuple, tuple])

    def test_long_histories(self):
        for seed in range(3):
            history = long_history(seed)
            for version in history[::9]:
                for many in (1, 5, 12, 20, 24):
                    rows = tuple(sorted(version[:many]))
                    found = find_supports(history, rows)
                    self.assertIs(defined_shows_reachable(history, rows, found), True)
                    self.assertIs(shows_reachable(history, rows, found), True)
                    lacking = rows[many // 2:]
                    if not is_reachable(history, lacking):
                        found = find_blockers(history, lacking)
                        self.assertIs(defined_shows_unreachable(history, lacking, found), True)
                        self.assertIs(shows_unreachable(history, lacking, found), True)


def good_certificates(history):
    """Return each row set with its certificate, and whether it shows that the set is reachable."""
    found = []
    for rows in row_sets_of(history):
        certificate = find_supports(history, rows)
        if certificate is None:
            found.append((rows, find_blockers(history, rows), False))
        else:
            found.append((rows, certificate, True))
    return found


class CertificateTest(PagesTest):
    histories = [DOCUMENT, *EDGES.values(), *(edited_history(seed) for seed in range(12))]

    def assert_both(self, history, rows, value):
        """Check both functions at any value against the words of the document."""
        self.assertIs(shows_reachable(history, rows, value), defined_shows_reachable(history, rows, value))
        self.assertIs(shows_unreachable(history, rows, value), defined_shows_unreachable(history, rows, value))

    def test_any_value(self):
        for history in self.histories:
            for rows in row_sets_of(history):
                for value in any_values():
                    self.assert_both(history, rows, value)

    def test_every_part_of_a_certificate_changed(self):
        for history in self.histories:
            for rows, certificate, _ in good_certificates(history)[:16]:
                for change in CHANGES:
                    for value in variants(certificate, change):
                        self.assert_both(history, rows, value)

    def test_lists_and_bools_are_refused(self):
        for history in self.histories:
            for rows, certificate, reachable in good_certificates(history):
                shows = shows_reachable if reachable else shows_unreachable
                self.assertIs(shows(history, rows, certificate), True)
                for value in variants(certificate, as_list) + variants(certificate, as_bool):
                    self.assertIs(shows(history, rows, value), False)

    def test_every_tuple_of_numbers(self):
        for history in fewer_histories():
            numbers = range(-2, len(history) + 2)
            for rows in row_sets_of(history)[:8]:
                for many in {max(0, len(rows) - 1), len(rows), min(2, len(rows) + 1)}:
                    for value in product(numbers, repeat=many):
                        self.assertIs(shows_reachable(history, rows, value),
                                      defined_shows_reachable(history, rows, value))

    def test_every_tuple_of_pairs(self):
        histories = [history for history in fewer_histories() if len(history) < 3 and len(history[-1]) < 4]
        for history in histories[::4] + [REVERSE]:
            pairs = list(product(range(-1, len(history) + 1), ("a", "b", "c", "x")))
            for rows in row_sets_of(history):
                for row in ("a", "b", "c", "x"):
                    for many in (0, 1, 2):
                        for some in product(pairs, repeat=many):
                            value = (row, some)
                            self.assertIs(shows_unreachable(history, rows, value),
                                          defined_shows_unreachable(history, rows, value))

    def test_wrong_numbers(self):
        self.assertIs(shows_reachable(DOCUMENT, ("a", "b"), (2, 1)), True)
        for value in [(-1, 1), (3, 1), (2, -2), (2, 3), (2, 1, 0), (2,), (), (True, 1), (2, True), (False, 1)]:
            self.assertIs(shows_reachable(DOCUMENT, ("a", "b"), value), False, value)
        # Version 1 has b before a, so it supports a only in a set with b.
        self.assertIs(shows_reachable(DOCUMENT, ("a", "b"), (1, 2)), True)
        self.assertIs(shows_reachable(DOCUMENT, ("a",), (1,)), False)

    def test_the_certificate_of_the_empty_set(self):
        for history in self.histories:
            self.assertIs(shows_reachable(history, (), ()), True)
            for value in [[], (0,), None, {}, "", 0, False]:
                self.assertIs(shows_reachable(history, (), value), False)
            for value in [(), ("a", ()), ("", ()), (None, ())]:
                self.assertIs(shows_unreachable(history, (), value), False)

    def test_any_row_and_any_blocker(self):
        history = (("a", "b", "c", "d"), ("b", "a", "d", "c"))
        for row in ("c", "d"):
            for one, other in product("ab", repeat=2):
                self.assertIs(shows_unreachable(history, ("c", "d"), (row, ((0, one), (1, other)))), True)
        # The blocker is a row of the set, or stands behind.
        self.assertIs(shows_unreachable(history, ("c", "d"), ("c", ((0, "a"), (1, "d")))), False)
        self.assertIs(shows_unreachable(history, ("c",), ("c", ((0, "d"), (1, "d")))), False)
        self.assertIs(shows_unreachable(history, ("c",), ("c", ((0, "c"), (1, "d")))), False)
        self.assertIs(shows_unreachable(history, ("c",), ("c", ((0, "a"), (1, "d")))), True)
        # The row is not in the set, or not live.
        self.assertIs(shows_unreachable(history, ("c",), ("d", ((0, "a"), (1, "a")))), False)

    def test_pairs_left_out_repeated_and_exchanged(self):
        zero, one, two = (0, "b"), (1, "a"), (2, "d")
        self.assertIs(shows_unreachable(DOCUMENT, ("c",), ("c", (zero, one, two))), True)
        wrong = [
            (), (zero,), (zero, one), (one, two), (zero, two), (zero, zero, one, two), (zero, one, one, two),
            (zero, one, two, two), (one, zero, two), (zero, two, one), (two, one, zero), (zero, zero, two),
            (zero, one, (2, "d", 0)), (zero, one, (2,)), (zero, one, ()), (zero, one, ("d", 2)), (zero, one, "d"),
            (zero, one, [2, "d"]), [zero, one, two], (zero, (True, "a"), two), ((False, "b"), one, two),
            (zero, one, (3, "d")), (zero, one, (-1, "d")), ((-3, "b"), one, two), (zero, one, (2, "x")),
            (zero, one, two, (3, "a")),
        ]
        for pairs in wrong:
            self.assertIs(shows_unreachable(DOCUMENT, ("c",), ("c", pairs)), False, pairs)
        for value in [["c", (zero, one, two)], ("c", (zero, one, two), ()), ("c",), ((zero, one, two), "c")]:
            self.assertIs(shows_unreachable(DOCUMENT, ("c",), value), False, value)

    def test_rows_that_left_are_no_blockers(self):
        history = (("x", "a", "b"), ("x", "b", "a"), ("b", "a"))
        self.assertIs(shows_unreachable(history, ("a",), ("a", ((0, "x"), (1, "b"), (2, "b")))), False)
        self.assertIs(shows_unreachable(history, ("a",), ("a", ((0, "x"), (1, "x"), (2, "b")))), False)
        self.assertIs(shows_unreachable((("x", "a", "b"), ("a", "b")), ("b",), ("b", ((0, "a"), (1, "a")))), True)
        self.assertIs(shows_unreachable((("x", "a", "b"), ("a", "b")), ("b",), ("b", ((0, "x"), (1, "a")))), False)

    def test_40_versions(self):
        rows = letters_rows(24)
        pairs = tuple((number, rows[number % 23]) for number in range(40))
        history = (rows,) * 40
        self.assertIs(shows_unreachable(history, rows[23:], (rows[23], pairs)), True)
        self.assertIs(shows_unreachable(history, rows[23:], (rows[23], pairs[:39])), False)
        self.assertIs(shows_unreachable(history, rows[23:], (rows[23], pairs + pairs[39:])), False)
        self.assertIs(shows_unreachable(history, rows[23:], (rows[23], pairs[:39] + ((39, rows[23]),))), False)
