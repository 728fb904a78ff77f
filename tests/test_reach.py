"""Sets near a set, schedules for a set, and all reachable sets."""

from movingpages.errors import TooMany, Unreachable
from movingpages.reach import all_reachable, greatest_reachable, last_rows, next_rows, schedule_for
from movingpages.requests import is_schedule, run_schedule, sent_live
from movingpages.states import is_reachable, prefix_lengths
from tests.histories import (
    DOCUMENT, EDGES, canonical, free_chains, long_history, rotations, row_sets_of, small_histories, walked_sets,
)
from tests.samples import PagesTest, letters_rows

LEFT = EDGES["rows that left before each live row"]


class GreatestTest(PagesTest):
    def test_against_the_definition(self):
        for history in small_histories():
            for rows in row_sets_of(history):
                inside = [some for some in walked_sets(history) if set(some) <= set(rows)]
                expected = tuple(sorted(set().union(*inside)))
                self.assertEqual(greatest_reachable(history, rows), expected)
                self.assertIs(is_reachable(history, expected), True)
                self.assertIs(greatest_reachable(history, rows).__class__, tuple)

    def test_a_reachable_set_is_its_own(self):
        for history in small_histories():
            for rows in walked_sets(history):
                self.assertEqual(greatest_reachable(history, rows), rows)

    def test_24_rows_and_40_versions(self):
        rows = letters_rows(24)
        history = (rows,) * 39 + (tuple(reversed(rows)),)
        lacking = rows[:10] + rows[11:]
        self.assertEqual(greatest_reachable(history, lacking), lacking)
        self.assertEqual(greatest_reachable((rows,) * 40, lacking), rows[:10])
        self.assertEqual(greatest_reachable(history, rows[5:20]), ())
        self.assertEqual(greatest_reachable(history, rows), rows)


class NearTest(PagesTest):
    def test_against_the_definitions(self):
        for history in small_histories():
            reachable = walked_sets(history)
            for rows in reachable:
                added = [row for row in history[-1] if row not in rows and tuple(sorted([*rows, row])) in reachable]
                removed = [row for row in rows if tuple(other for other in rows if other != row) in reachable]
                self.assertEqual(next_rows(history, rows), tuple(sorted(added)))
                self.assertEqual(last_rows(history, rows), tuple(sorted(removed)))

    def test_unreachable_sets(self):
        for history in small_histories():
            reachable = walked_sets(history)
            for rows in row_sets_of(history):
                if rows not in reachable:
                    for function in (next_rows, last_rows, schedule_for):
                        self.assert_raises_with(Unreachable, "rows", rows, function, history, rows)

    def test_the_empty_set_and_all_rows(self):
        for history in small_histories():
            live = tuple(sorted(history[-1]))
            self.assertEqual(last_rows(history, ()), ())
            self.assertEqual(next_rows(history, live), ())
            self.assertEqual(next_rows(history, ()) == (), live == ())

    def test_rows_that_left_are_not_next(self):
        self.assertEqual(next_rows(LEFT, ()), ("a", "b", "c"))
        self.assertEqual(next_rows((("x", "b", "a"), ("b", "a")), ()), ("b",))
        self.assertEqual(next_rows((("x", "y"), ()), ()), ())

    def test_24_rows_and_40_versions(self):
        rows = letters_rows(24)
        self.assertEqual(next_rows(rotations(24, 40), ()), rows)
        self.assertEqual(next_rows(rotations(24, 40), rows[:20]), rows[20:])
        self.assertEqual(last_rows(rotations(24, 40), rows), rows)
        self.assertEqual(next_rows((rows,) * 40, rows[:7]), (rows[7],))
        self.assertEqual(last_rows((rows,) * 40, rows[:7]), (rows[6],))
        self.assertEqual(next_rows(rotations(24, 20), ()), rows[:20])
        for function in (next_rows, last_rows, schedule_for):
            self.assert_raises_with(Unreachable, "rows", rows[1:], function, (rows,) * 40, rows[1:])


class ScheduleForTest(PagesTest):
    def assert_schedule(self, history, rows):
        """Check the schedule against its description, row by row, and against what it sends."""
        sent = set()
        expected = []
        for number, (version, length) in enumerate(zip(history, prefix_lengths(history, rows))):
            new = [row for row in version[:length] if row not in sent]
            expected.append((number, len(new)))
            sent.update(new)
        schedule = schedule_for(history, rows)
        self.assertEqual(schedule, tuple(expected))
        self.assertIs(is_schedule(history, schedule), True)
        self.assertEqual(sent_live(history, schedule), rows)

    def test_every_reachable_set(self):
        for history in small_histories():
            for rows in walked_sets(history):
                self.assert_schedule(history, rows)

    def test_rows_that_left_are_sent_and_counted(self):
        self.assertEqual(schedule_for(LEFT, ()), ((0, 1), (1, 1), (2, 0)))
        self.assertEqual(schedule_for(LEFT, ("a",)), ((0, 3), (1, 1), (2, 0)))
        self.assertEqual(schedule_for(LEFT, ("a", "b", "c")), ((0, 6), (1, 0), (2, 0)))
        self.assertEqual(run_schedule(LEFT, schedule_for(LEFT, ("c",))), (("x",), ("z", "c"), ()))
        history = (("x", "a", "y", "b"), ("y", "x", "z", "b", "a"), ("b", "a"))
        self.assertEqual(schedule_for(history, ("b",)), ((0, 1), (1, 3), (2, 0)))
        self.assertEqual(run_schedule(history, schedule_for(history, ("b",))), (("x",), ("y", "z", "b"), ()))

    def test_one_pair_for_each_version(self):
        self.assertEqual(schedule_for(((),), ()), ((0, 0),))
        self.assertEqual(schedule_for((("a", "b"), ("b",), ()), ()), ((0, 2), (1, 0), (2, 0)))
        self.assertEqual(schedule_for((("a",),) * 3, ()), ((0, 0), (1, 0), (2, 0)))
        self.assertEqual(schedule_for((("a",),) * 3, ("a",)), ((0, 1), (1, 0), (2, 0)))

    def test_24_rows_and_40_versions(self):
        rows = letters_rows(24)
        history = rotations(24, 40)
        self.assert_schedule(history, rows)
        self.assert_schedule(history, rows[::2])
        # Every second version starts with a row of the set; from version 24 on, all of them have been sent.
        expected = [(number, 1 if number < 24 and number % 2 == 0 else 0) for number in range(40)]
        self.assertEqual(schedule_for(history, rows[::2]), tuple(expected))
        for seed in range(3):
            history = long_history(seed)
            for version in history[::10]:
                self.assert_schedule(history, tuple(sorted(version[:9])))


class AllReachableTest(PagesTest):
    def test_against_all_schedules(self):
        for history in small_histories():
            self.assertEqual(all_reachable(history), walked_sets(history))

    def test_too_many_exactly_if_more_than_most(self):
        for history in small_histories()[::5]:
            expected = walked_sets(history)
            for most in range(len(expected)):
                self.assert_raises_with(TooMany, "most", most, all_reachable, history, most=most)
            for most in (len(expected), len(expected) + 1, 2000, 10 ** 20):
                self.assertEqual(all_reachable(history, most=most), expected)

    def test_no_set_is_too_many_for_zero(self):
        for history in [DOCUMENT, *EDGES.values(), rotations(24, 40)]:
            self.assert_raises_with(TooMany, "most", 0, all_reachable, history, most=0)
        self.assertEqual(all_reachable(((),), most=1), ((),))
        self.assertEqual(all_reachable((("a", "b"), ()), most=1), ((),))

    def test_the_default_is_2000(self):
        exactly = free_chains([1, 1, 1, 1, 4, 4, 4])
        self.assertEqual(len(all_reachable(exactly)), 2000)
        self.assertEqual(all_reachable(exactly), all_reachable(exactly, most=2000))
        self.assert_raises_with(TooMany, "most", 1999, all_reachable, exactly, most=1999)
        # A row behind all others is in one more set.
        one_more = tuple(version + ("zz",) for version in exactly)
        self.assert_raises_with(TooMany, "most", 2000, all_reachable, one_more)
        self.assert_raises_with(TooMany, "most", 2000, all_reachable, one_more, most=2000)
        self.assertEqual(len(all_reachable(one_more, most=2001)), 2001)

    def test_a_greater_most(self):
        history = rotations(12, 12)
        self.assert_raises_with(TooMany, "most", 2000, all_reachable, history)
        self.assert_raises_with(TooMany, "most", 4095, all_reachable, history, most=4095)
        self.assertEqual(all_reachable(history, most=4096), canonical(row_sets_of(history)))

    def test_24_rows_and_40_versions(self):
        rows = letters_rows(24)
        self.assertEqual(all_reachable((rows,) * 40), tuple(rows[:many] for many in range(25)))
        both = all_reachable((rows,) * 20 + (tuple(reversed(rows)),) * 20)
        expected = {rows[:many] + rows[24 - other:] for many in range(25) for other in range(25 - many)}
        self.assertEqual(both, canonical(expected))
        self.assertEqual(len(both), 301)
        for most in (1, 2000, 3000):
            self.assert_raises_with(TooMany, "most", most, all_reachable, rotations(24, 40), most=most)

    def test_canonical_order(self):
        history = (("b", "aa", "a"), ("aa", "b", "a"), ("a", "b", "aa"))
        self.assertEqual(all_reachable(history), (
            (), ("a",), ("aa",), ("b",), ("a", "aa"), ("a", "b"), ("aa", "b"), ("a", "aa", "b"),
        ))

    def test_most_by_keyword_alone(self):
        self.assertRaises(TypeError, all_reachable, DOCUMENT, 2000)

    def test_they_are_tuples(self):
        found = all_reachable(DOCUMENT)
        self.assertEqual({found.__class__, *(rows.__class__ for rows in found)}, {tuple})
