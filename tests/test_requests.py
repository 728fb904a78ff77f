"""Pages, schedules, and what they send."""

from itertools import permutations, product

from movingpages.requests import is_schedule, page_of, run_schedule, sent_live
from tests.samples import PagesTest, any_values, letters_rows


class PageTest(PagesTest):
    def test_counts(self):
        version = ("d", "a", "b", "c")
        expected = [(), ("d",), ("d", "b"), ("d", "b", "c"), ("d", "b", "c")]
        for count in (0, 1, 2, 3, 4):
            self.assertEqual(page_of(version, ("a",), count), expected[count])
        self.assertEqual(page_of(version, (), 1000), version)
        self.assertEqual(page_of(letters_rows(24), (), 24), letters_rows(24))
        self.assertEqual(page_of(letters_rows(24), (), 23), letters_rows(23))

    def test_sent_rows_in_any_order(self):
        for sent in permutations(("a", "c", "e")):
            self.assertEqual(page_of(("e", "d", "c", "b", "a"), sent, 1), ("d",))
            self.assertEqual(page_of(("e", "d", "c", "b", "a"), sent, 9), ("d", "b"))

    def test_sent_rows_that_the_version_lacks(self):
        self.assertEqual(page_of(("b", "a"), ("x", "a", "y"), 2), ("b",))
        self.assertEqual(page_of(("b", "a"), ("x", "y"), 2), ("b", "a"))
        self.assertEqual(page_of(("b", "ab"), ("a", "abc"), 2), ("b", "ab"))

    def test_nothing_to_send(self):
        self.assertEqual(page_of((), (), 5), ())
        self.assertEqual(page_of((), ("a",), 5), ())
        self.assertEqual(page_of(("a", "b"), ("b", "a"), 5), ())
        self.assertEqual(page_of(("a", "b"), (), 0), ())

    def test_it_is_a_tuple(self):
        self.assertIsInstance(page_of(("a",), (), 1), tuple)
        self.assertIsInstance(page_of(("a",), (), 0), tuple)


class ScheduleTest(PagesTest):
    history = (("a", "b"), ("b", "a"), ("b",))

    def test_version_numbers(self):
        for index, expected in [(-1, False), (0, True), (1, True), (2, True), (3, False), (10 ** 20, False)]:
            self.assertIs(is_schedule(self.history, ((index, 1),)), expected, index)
        self.assertIs(is_schedule((("a",),), ((0, 1),)), True)
        self.assertIs(is_schedule((("a",),), ((1, 1),)), False)
        long_history = (("a",),) * 40
        self.assertIs(is_schedule(long_history, ((39, 1),)), True)
        self.assertIs(is_schedule(long_history, ((40, 1),)), False)

    def test_counts(self):
        for count, expected in [(-1, False), (0, True), (1, True), (999, True), (1000, True), (1001, False)]:
            self.assertIs(is_schedule(self.history, ((1, count),)), expected, count)
            self.assertIs(is_schedule(self.history, ((0, 1), (1, count), (2, 1))), expected, count)

    def test_every_sequence_of_version_numbers(self):
        for many in (0, 1, 2, 3, 4):
            for numbers in product((0, 1, 2), repeat=many):
                schedule = tuple((number, 5) for number in numbers)
                expected = list(numbers) == sorted(numbers)
                self.assertIs(is_schedule(self.history, schedule), expected, schedule)

    def test_true_and_false_are_no_integers(self):
        for pair in [(True, 1), (False, 1), (1, True), (1, False), (True, False)]:
            self.assertIs(is_schedule(self.history, (pair,)), False, pair)
            self.assertIs(is_schedule(self.history, ((0, 1), pair)), False, pair)

    def test_pairs_of_another_length(self):
        for pair in [(), (0,), (0, 1, 2), (0, 1, 1, 1)]:
            self.assertIs(is_schedule(self.history, (pair,)), False, pair)
            self.assertIs(is_schedule(self.history, ((0, 1), pair)), False, pair)

    def test_a_list_at_every_depth(self):
        for value in [[], [(0, 1)], [[0, 1]], ([0, 1],), ((0, 1), [1, 1]), (([0], 1),), ((0, [1]),), (0, 1)]:
            self.assertIs(is_schedule(self.history, value), False)

    def test_any_value(self):
        for value in any_values():
            expected = isinstance(value, tuple) and value in [(), ((0, 1),)]
            self.assertIs(is_schedule(self.history, value), expected)

    def test_any_value_in_a_schedule(self):
        for value in any_values():
            number = value.__class__ is int
            index_fits = number and 0 <= value <= 2
            count_fits = number and 0 <= value <= 1000
            pair_fits = isinstance(value, tuple) and value == (0, 1)
            self.assertIs(is_schedule(self.history, ((value, 1),)), index_fits)
            self.assertIs(is_schedule(self.history, ((0, value),)), count_fits)
            self.assertIs(is_schedule(self.history, (value,)), pair_fits)
            self.assertIs(is_schedule(self.history, ((0, 1), value)), pair_fits)


def pages_by_hand(history, schedule):
    """Send row by row, as the definition of a request says."""
    sent = []
    pages = []
    for number, count in schedule:
        page = []
        for row in history[number]:
            if len(page) < count and row not in sent:
                page.append(row)
                sent.append(row)
        pages.append(tuple(page))
    return tuple(pages)


class RunTest(PagesTest):
    history = (("a", "b", "c", "x"), ("x", "c", "a", "b"), ("d", "c", "b"))

    def test_no_requests(self):
        self.assertEqual(run_schedule(self.history, ()), ())
        self.assertEqual(sent_live(self.history, ()), ())

    def test_counts_of_zero_and_too_many(self):
        self.assertEqual(run_schedule(self.history, ((0, 0), (0, 1000), (1, 5))), ((), ("a", "b", "c", "x"), ()))
        self.assertEqual(run_schedule(self.history, ((2, 1000),)), (("d", "c", "b"),))
        self.assertEqual(sent_live(self.history, ((0, 0), (2, 0))), ())
        self.assertEqual(sent_live(self.history, ((2, 1000),)), ("b", "c", "d"))

    def test_several_requests_at_one_version(self):
        self.assertEqual(run_schedule(self.history, ((1, 1), (1, 2), (1, 9), (1, 9))),
                         (("x",), ("c", "a"), ("b",), ()))
        self.assertEqual(sent_live(self.history, ((1, 1), (1, 2), (1, 9))), ("b", "c"))
        self.assertEqual(sent_live(self.history, ((2, 1), (2, 1))), ("c", "d"))

    def test_rows_that_leave_later_are_sent_and_counted(self):
        self.assertEqual(run_schedule(self.history, ((1, 1), (2, 2))), (("x",), ("d", "c")))
        self.assertEqual(run_schedule(self.history, ((0, 1), (1, 2), (2, 2))), (("a",), ("x", "c"), ("d", "b")))
        self.assertEqual(sent_live(self.history, ((0, 1), (1, 1))), ())
        self.assertEqual(sent_live(self.history, ((0, 1), (1, 2))), ("c",))

    def test_live_rows_ascending(self):
        self.assertEqual(sent_live((("c", "b", "aa", "a"),), ((0, 3),)), ("aa", "b", "c"))
        self.assertEqual(sent_live((("a", "b"), ()), ((0, 2),)), ())

    def test_every_short_schedule(self):
        requests = list(product((0, 1, 2), (0, 1, 2, 9)))
        for many in (1, 2, 3):
            for schedule in product(requests, repeat=many):
                if not is_schedule(self.history, schedule):
                    continue
                pages = pages_by_hand(self.history, schedule)
                self.assertEqual(run_schedule(self.history, schedule), pages)
                sent = {row for page in pages for row in page}
                self.assertEqual(sent_live(self.history, schedule), tuple(sorted(sent & {"b", "c", "d"})))

    def test_pages_are_tuples(self):
        pages = run_schedule(self.history, ((0, 1), (0, 0)))
        self.assertEqual([pages.__class__, pages[0].__class__, pages[1].__class__], [tuple, tuple, tuple])
