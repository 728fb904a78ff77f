"""Two histories of the same list."""

from itertools import product
from random import Random

from movingpages.compare import reach_gap, same_reach
from movingpages.errors import DifferentLists
from movingpages.orders import smallest_orders
from movingpages.reach import all_reachable
from movingpages.states import is_reachable
from tests.histories import (
    DOCUMENT, EDGES, defined_path_sets, edited_history, histories_of, long_history, rotations, small_histories,
    walked_sets,
)
from tests.samples import PagesTest, letters_rows


def defined_gap(one, other):
    """Return what the document says of two histories with the same last version."""
    for path in defined_path_sets(one):
        if path not in walked_sets(other):
            return (0, path)
    for path in defined_path_sets(other):
        if path not in walked_sets(one):
            return (1, path)
    return None


def pairs():
    """Return pairs of small histories with the same last version."""
    found = []
    by_last = {}
    for history in small_histories():
        by_last.setdefault(history[-1], []).append(history)
    for histories in by_last.values():
        chance = Random(len(found))
        some = chance.sample(histories, min(12, len(histories)))
        found += list(product(some, some))
    return found


class CompareTest(PagesTest):
    def assert_right(self, one, other):
        gap = reach_gap(one, other)
        self.assertEqual(gap, defined_gap(one, other))
        self.assertIs(same_reach(one, other), gap is None)
        self.assertEqual(gap is None, all_reachable(one) == all_reachable(other))
        if gap is not None:
            number, rows = gap
            self.assertEqual([gap.__class__, number.__class__, rows.__class__], [tuple, int, tuple])
            self.assertIs(is_reachable([one, other][number], rows), True)
            self.assertIs(is_reachable([other, one][number], rows), False)
            self.assertIn(rows, all_reachable([one, other][number]))
            self.assertNotIn(rows, all_reachable([other, one][number]))

    def test_pairs_of_small_histories(self):
        same = 0
        for one, other in pairs():
            self.assert_right(one, other)
            same += reach_gap(one, other) is None
        self.assertGreater(same, 100)

    def test_all_histories_of_two_rows(self):
        histories = [history for many in (1, 2, 3) for history in histories_of(("a", "b"), many)]
        for one, other in product(histories, histories):
            if one[-1] == other[-1]:
                self.assert_right(one, other)
            else:
                for function in (same_reach, reach_gap):
                    self.assert_raises_with(DifferentLists, "version", other[-1], function, one, other)

    def test_a_history_and_itself(self):
        for history in small_histories():
            self.assertIs(same_reach(history, history), True)
            self.assertIsNone(reach_gap(history, history))

    def test_different_lists(self):
        different = [
            (DOCUMENT, DOCUMENT[:2]),
            (DOCUMENT, (("a", "b", "c", "d"),)),
            (DOCUMENT, (("a", "b", "d", "c", "e"),)),
            (DOCUMENT, (("a", "b", "d"),)),
            (DOCUMENT, ((),)),
            (((),), DOCUMENT),
            ((("a",), ()), (("a",),)),
            ((("a", "b"), ("b", "a")), (("b", "a"), ("a", "b"))),
        ]
        for one, other in different:
            for function in (same_reach, reach_gap):
                self.assert_raises_with(DifferentLists, "version", other[-1], function, one, other)
                self.assert_raises_with(DifferentLists, "version", one[-1], function, other, one)

    def test_the_first_path(self):
        one = (("b", "a", "c"), ("c", "b", "a"), ("a", "b", "c"))
        other = (("a", "b", "c"),)
        self.assertEqual(reach_gap(one, other), (0, ("b",)))
        self.assertEqual(reach_gap(other, one), (1, ("b",)))
        # Each has a path that the other lacks: that of the first history is returned.
        two = (("c", "a", "b"), ("a", "b", "c"))
        three = (("b", "a", "c"), ("a", "b", "c"))
        self.assertEqual(reach_gap(two, three), (0, ("c",)))
        self.assertEqual(reach_gap(three, two), (0, ("b",)))

    def test_a_path_of_one_that_is_reachable_but_no_path_in_the_other(self):
        one = (("a", "b"),)
        other = (("b", "a"), ("a", "b"))
        self.assertEqual(reach_gap(one, other), (1, ("b",)))
        self.assertEqual(reach_gap(other, one), (0, ("b",)))

    def test_rows_that_left_make_no_difference(self):
        for history in [*EDGES.values(), *(edited_history(seed) for seed in range(40))]:
            live = history[-1]
            cut = tuple(tuple(row for row in version if row in live) for version in history)
            self.assert_right(history, cut)
            self.assertIs(same_reach(history, cut), True)
            self.assertIs(same_reach(history, (history[0],) + history), True)

    def test_the_smallest_orders_have_the_same_reach(self):
        for history in small_histories():
            self.assertIs(same_reach(history, smallest_orders(history) + history[-1:]), True)

    def test_no_live_rows(self):
        for one, other in product([((),), ((), ()), (("a", "b"), ())], repeat=2):
            self.assertIs(same_reach(one, other), True)
            self.assertIsNone(reach_gap(one, other))

    def test_forty_versions_that_differ_in_the_first_one_alone(self):
        rows = letters_rows(24)
        backwards = tuple(reversed(rows))
        one, other = (backwards,) + (rows,) * 39, (rows,) * 40
        self.assertEqual(reach_gap(one, other), (0, rows[1:]))
        self.assertEqual(reach_gap(other, one), (1, rows[1:]))
        self.assertIs(same_reach(one, other), False)
        # Version 24 is version 0 again, so nothing is lost if version 0 is another one.
        history = rotations(24, 40)
        self.assertIs(same_reach(history, (history[1],) + history[1:]), True)
        # Here a is the first row of version 0 alone.
        history = rotations(24, 24) + rotations(24, 24)[8:]
        changed = (history[1],) + history[1:]
        self.assertEqual(len(history), 40)
        self.assertEqual(reach_gap(history, changed), (0, (rows[0],)))
        self.assertEqual(reach_gap(changed, history), (1, (rows[0],)))

    def test_24_rows_and_40_versions(self):
        for seed in range(2):
            history = long_history(seed)
            orders = smallest_orders(history)
            self.assertIs(same_reach(history, orders + history[-1:]), True)
            self.assertIs(same_reach(history[:39] + history[-1:], history), True)
            number, rows = reach_gap(history, history[-1:])
            self.assertEqual(number, 0)
            self.assertIs(is_reachable(history, rows), True)
            self.assertIs(is_reachable(history[-1:], rows), False)
