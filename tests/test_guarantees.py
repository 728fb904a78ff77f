"""Guarantee G2, which stands on several functions together."""

from itertools import islice, product

from movingpages.paths import beginning_of
from movingpages.reach import all_reachable, schedule_for
from movingpages.requests import sent_live
from movingpages.states import find_blockers, find_supports, is_reachable, shows_reachable, shows_unreachable
from tests.histories import before_in, fewer_histories, row_sets_of, small_histories, walked_sets
from tests.samples import PagesTest


def unreachable_certificates(history, rows):
    """Return what could show that the set is not reachable: any live row before a row in each version."""
    found = []
    for row in rows:
        numbers = [number for number in range(len(history)) if row in history[number]]
        each = [[(number, other) for other in before_in(history, number, row)] for number in numbers]
        found += [(row, pairs) for pairs in islice(product(*each), 2000)]
    return found


class ReachableSetsTest(PagesTest):
    def test_reachable_exactly_if_some_schedule_sends_it(self):
        for history in small_histories():
            expected = walked_sets(history)
            self.assertEqual(all_reachable(history), expected)
            for rows in row_sets_of(history):
                self.assertIs(is_reachable(history, rows), rows in expected)
            for rows in expected:
                self.assertEqual(sent_live(history, schedule_for(history, rows)), rows)

    def test_reachable_exactly_if_a_union_of_beginnings(self):
        for history in small_histories():
            beginnings = {
                beginning_of(history, number, row)
                for number, version in enumerate(history) for row in version if row in history[-1]
            }
            unions = {()}
            for beginning in beginnings:
                unions |= {tuple(sorted({*rows, *beginning})) for rows in unions}
            self.assertEqual(unions, set(all_reachable(history)))

    def test_the_union_of_two_reachable_sets_is_reachable(self):
        for history in small_histories():
            for one in walked_sets(history):
                for other in walked_sets(history):
                    self.assertIs(is_reachable(history, tuple(sorted({*one, *other}))), True)

    def test_a_certificate_of_exactly_one_kind(self):
        for history in small_histories():
            for rows in row_sets_of(history):
                good, bad = find_supports(history, rows), find_blockers(history, rows)
                self.assertEqual([good is not None, bad is None], [is_reachable(history, rows)] * 2)
                if good is None:
                    self.assertIs(shows_unreachable(history, rows, bad), True)
                    self.assertIs(shows_reachable(history, rows, bad), False)
                else:
                    self.assertIs(shows_reachable(history, rows, good), True)
                    self.assertIs(shows_unreachable(history, rows, good), False)

    def test_no_certificate_of_the_other_kind(self):
        for history in fewer_histories():
            for rows in row_sets_of(history):
                if is_reachable(history, rows):
                    for certificate in unreachable_certificates(history, rows):
                        self.assertIs(shows_unreachable(history, rows, certificate), False)
                elif len(history) ** len(rows) < 2000:
                    for certificate in product(range(len(history)), repeat=len(rows)):
                        self.assertIs(shows_reachable(history, rows, certificate), False)
