"""Tokens: encoding, decoding, normal forms, merging and pages."""

from itertools import combinations, permutations, product
from random import Random

from movingpages.errors import BadToken
from movingpages.orders import smallest_orders
from movingpages.reach import all_reachable
from movingpages.requests import page_of
from movingpages.tokens import decode_token, encode_state, merge_tokens, normalize_token, send_page
from tests.histories import fewer_histories, long_history, rotations, unions_of
from tests.samples import CHANGES, PagesTest, any_values, as_bool, as_list, letters_rows, variants

ORDERS = (("a", "b", "c", "d"), ("b", "a", "d", "c"))

FEW = [
    (), ((),), ((), ()), (("a",),), (("b", "a"),), ORDERS, ORDERS + ((),), ((),) + ORDERS, (("a", "b"), ("c",)),
    (("a", "b", "c"), ("c", "b", "a")), (("a", "b", "c"), ("c", "a"), ("b",)), (("a", "b"), ("a", "b")),
    (("x", "a"), ("b", "x", "aa"), ("aa", "y")),
]


def rows_of(orders):
    """Return all rows of these orders in ascending order."""
    return sorted({row for order in orders for row in order})


def sets_of(rows):
    """Return all sets of these rows."""
    return [some for many in range(len(rows) + 1) for some in combinations(rows, many)]


def tokens_of(orders):
    """Return all tokens for these orders."""
    return list(product(*(range(len(order) + 1) for order in orders)))


def is_defined_token(orders, value):
    """Return whether any value is a token for these orders."""
    if value.__class__ is not tuple or len(value) != len(orders):
        return False
    return all(many.__class__ is int and 0 <= many <= len(order) for order, many in zip(orders, value))


def defined_set(orders, token):
    """Return the set that the token represents."""
    return tuple(sorted({row for order, many in zip(orders, token) for row in order[:many]}))


def defined_normal(orders, rows):
    """Return for each order the length of the longest prefix within the set."""
    return tuple(max(many for many in range(len(order) + 1) if set(order[:many]) <= set(rows)) for order in orders)


def is_normal(orders, token):
    """Return whether no integer in the token can be larger without the union becoming larger."""
    for place, many in enumerate(token):
        for larger in range(many + 1, len(orders[place]) + 1):
            if defined_set(orders, token[:place] + (larger,) + token[place + 1:]) == defined_set(orders, token):
                return False
    return True


def hundred_orders():
    """Return a hundred orders of 24 rows."""
    rows = letters_rows(24)
    return tuple(tuple(Random(seed).sample(rows, 24)) for seed in range(100))


class EncodeTest(PagesTest):
    def test_all_sets_of_rows(self):
        for orders in FEW:
            for rows in sets_of(rows_of(orders)):
                token = encode_state(orders, rows)
                self.assertIs(token.__class__, tuple)
                self.assertEqual(token, defined_normal(orders, rows))
                self.assertTrue(is_normal(orders, token))
                self.assertLessEqual(set(defined_set(orders, token)), set(rows))
                self.assertEqual(defined_set(orders, token) == rows, rows in unions_of(orders))

    def test_rows_that_no_order_has(self):
        self.assertEqual(encode_state(ORDERS, ("a", "b", "d", "x")), (2, 3))
        self.assertEqual(encode_state(ORDERS, ("x", "y")), (0, 0))
        self.assertEqual(encode_state((), ("x", "y")), ())
        self.assertEqual(encode_state(((),), ("x",)), (0,))

    def test_no_orders_and_orders_without_rows(self):
        self.assertEqual(encode_state((), ()), ())
        self.assertEqual(encode_state(((), ("a",), ()), ("a",)), (0, 1, 0))
        self.assertEqual(encode_state(((), ("a",), ()), ()), (0, 0, 0))

    def test_rows_of_several_letters(self):
        orders = (("abc", "a", "b"), ("ab", "bc"))
        self.assertEqual(encode_state(orders, ("a", "abc", "bc")), (2, 0))
        self.assertEqual(encode_state(orders, ("ab", "bc")), (0, 2))

    def test_a_hundred_orders(self):
        rows = letters_rows(24)
        orders = hundred_orders()
        self.assertEqual(encode_state(orders, rows), (24,) * 100)
        self.assertEqual(encode_state(orders, ()), (0,) * 100)
        for some in (rows[:12], rows[3:], rows[::2], rows[:23]):
            self.assertEqual(encode_state(orders, some), defined_normal(orders, some))


class DecodeTest(PagesTest):
    def test_all_tokens(self):
        for orders in FEW:
            for token in tokens_of(orders):
                rows = defined_set(orders, token)
                self.assertEqual(decode_token(orders, token), rows)
                self.assertIs(decode_token(orders, token).__class__, tuple)
                normal = normalize_token(orders, token)
                self.assertIs(normal.__class__, tuple)
                self.assertEqual(normal, encode_state(orders, rows))
                self.assertEqual(decode_token(orders, normal), rows)
                self.assertEqual(normal == token, is_normal(orders, token))

    def test_exactly_one_normal_token_for_each_set(self):
        for orders in FEW:
            normal = {}
            for token in tokens_of(orders):
                if is_normal(orders, token):
                    self.assertNotIn(defined_set(orders, token), normal)
                    normal[defined_set(orders, token)] = token
            for token in tokens_of(orders):
                self.assertEqual(normalize_token(orders, token), normal[defined_set(orders, token)])
            self.assertEqual(sorted(normal), sorted(unions_of(orders)))
            for rows, token in normal.items():
                self.assertEqual(encode_state(orders, rows), token)

    def test_the_reachable_sets(self):
        for history in fewer_histories():
            orders = smallest_orders(history)
            for rows in all_reachable(history):
                self.assertEqual(decode_token(orders, encode_state(orders, rows)), rows)

    def test_a_hundred_orders(self):
        orders = hundred_orders()
        token = tuple(Random(7).randrange(3) for _ in range(100))
        self.assertEqual(decode_token(orders, token), defined_set(orders, token))
        self.assertEqual(decode_token(orders, (0,) * 99 + (5,)), tuple(sorted(orders[99][:5])))
        self.assertEqual(normalize_token(orders, (0,) * 99 + (24,)), (24,) * 100)
        for wrong in [(0,) * 99, (0,) * 101, (0,) * 99 + (25,), (25,) + (0,) * 99, (0,) * 99 + (False,)]:
            self.assert_raises_with(BadToken, "token", wrong, decode_token, orders, wrong)


class WrongTokenTest(PagesTest):
    version = ("a", "b", "d", "c")

    def assert_right(self, orders, value):
        """Check all functions at any value: what they return for a token, and the error for everything else."""
        version = tuple(rows_of(orders))
        zeros = (0,) * len(orders)
        calls = [
            (decode_token, (orders, value)),
            (normalize_token, (orders, value)),
            (merge_tokens, (orders, value, zeros)),
            (merge_tokens, (orders, zeros, value)),
            (send_page, (orders, version, value, 1)),
            (send_page, (orders, version, value, 0)),
        ]
        for function, arguments in calls:
            if is_defined_token(orders, value):
                function(*arguments)
            else:
                self.assert_raises_with(BadToken, "token", value, function, *arguments)

    def test_any_value(self):
        for orders in FEW:
            for value in any_values():
                self.assert_right(orders, value)
                self.assert_right(orders, (value,))
                self.assert_right(orders, (0, value))
                self.assert_right(orders, (value, 0))

    def test_any_changed_part(self):
        for orders in FEW:
            for token in tokens_of(orders)[::3]:
                for change in CHANGES:
                    for value in variants(token, change):
                        self.assert_right(orders, value)

    def test_lists_and_bools(self):
        for orders in FEW:
            for token in tokens_of(orders):
                for value in variants(token, as_list) + variants(token, as_bool):
                    self.assert_raises_with(BadToken, "token", value, decode_token, orders, value)

    def test_the_edges(self):
        wrong = [
            [1, 3], (True, 3), (1, False), (-1, 3), (1, -1), (5, 0), (0, 5), (1, 3, 0), (1,), (), ((1, 3),), ([1], 3),
            ("1", "3"), (None, 3), None, True, False, 1, "13", {}, {0: 1, 1: 3}, (10 ** 20, 0), (0, 10 ** 5000),
        ]
        for value in wrong:
            self.assertFalse(is_defined_token(ORDERS, value))
            self.assert_right(ORDERS, value)
        for value in [(4, 4), (0, 0), (4, 0), (0, 4)]:
            self.assertTrue(is_defined_token(ORDERS, value))
            self.assert_right(ORDERS, value)
        for value in [(0,), (0, 0), (1,), (-1,), (False,), [], None, 0]:
            self.assert_right((), value)
            self.assert_right(((),), value)

    def test_the_first_of_two_wrong_tokens(self):
        for one in any_values():
            for other in [(0, 0), (5, 0), [0, 0], None, (True, 0)]:
                if is_defined_token(ORDERS, one):
                    continue
                self.assert_raises_with(BadToken, "token", one, merge_tokens, ORDERS, one, other)
        for one in [(0, 0), (4, 4), (1, 3)]:
            for other in any_values():
                if not is_defined_token(ORDERS, other):
                    self.assert_raises_with(BadToken, "token", other, merge_tokens, ORDERS, one, other)

    def test_the_very_value(self):
        one, other = [1, 2], [1, 2]
        for pair, wrong in [((one, other), one), (((0, 0), other), other), ((one, (0, 0)), one)]:
            with self.assertRaises(BadToken) as caught:
                merge_tokens(ORDERS, *pair)
            self.assertIs(caught.exception.token, wrong)


class MergeTest(PagesTest):
    def test_all_pairs_of_tokens(self):
        for orders in FEW:
            for one, other in product(tokens_of(orders)[::2], tokens_of(orders)):
                rows = tuple(sorted({*defined_set(orders, one), *defined_set(orders, other)}))
                expected = defined_normal(orders, rows)
                self.assertEqual(merge_tokens(orders, one, other), expected)
                self.assertEqual(merge_tokens(orders, other, one), expected)
                self.assertIs(merge_tokens(orders, one, other).__class__, tuple)
                larger = tuple(map(max, one, other))
                self.assertEqual(normalize_token(orders, larger), expected)

    def test_the_same_token_twice(self):
        for orders in FEW:
            for token in tokens_of(orders):
                self.assertEqual(merge_tokens(orders, token, token), normalize_token(orders, token))

    def test_a_hundred_orders(self):
        orders = hundred_orders()
        for seed in range(5):
            chance = Random(seed)
            one, other = [tuple(chance.randrange(2) for _ in orders) for _ in range(2)]
            rows = {*defined_set(orders, one), *defined_set(orders, other)}
            self.assertEqual(merge_tokens(orders, one, other), defined_normal(orders, rows))


class SendPageTest(PagesTest):
    def assert_page(self, orders, version, token, count):
        sent = defined_set(orders, token)
        page = page_of(version, sent, count)
        found = send_page(orders, version, token, count)
        self.assertEqual(found, (page, defined_normal(orders, {*sent, *page})))
        self.assertEqual([part.__class__ for part in (found, *found)], [tuple] * 3)
        # The token represents exactly what has been sent now.
        self.assertEqual(decode_token(orders, found[1]), tuple(sorted({*sent, *page})))

    def test_all_tokens_and_counts(self):
        for orders in [ORDERS, (("a", "b", "c"), ("c", "b", "a")), (("b", "a"),), ((),), ()]:
            reachable = unions_of(orders)
            versions = [version for version in permutations(rows_of(orders))
                        if all(tuple(sorted(version[:many])) in reachable for many in range(len(version) + 1))]
            self.assertGreater(len(versions), 0)
            for version, token in product(versions, tokens_of(orders)):
                for count in (0, 1, 2, len(version), len(version) + 1, 1000):
                    self.assert_page(orders, version, token, count)

    def test_histories(self):
        for history in fewer_histories():
            orders = smallest_orders(history)
            for rows in all_reachable(history)[:6]:
                for count in (0, 1, 2, 1000):
                    self.assert_page(orders, history[-1], encode_state(orders, rows), count)

    def test_counts(self):
        version = ("a", "b", "d", "c")
        self.assertEqual(send_page(ORDERS, version, (0, 3), 0), ((), (2, 3)))
        self.assertEqual(send_page(ORDERS, version, (0, 1), 0), ((), (0, 1)))
        self.assertEqual(send_page(ORDERS, version, (0, 1), 1), (("a",), (2, 2)))
        for count in (3, 4, 5, 999, 1000):
            self.assertEqual(send_page(ORDERS, version, (0, 1), count), (("a", "d", "c"), (4, 4)))
            self.assertEqual(send_page(ORDERS, version, (4, 0), count), ((), (4, 4)))

    def test_rows_that_the_version_lacks_stay(self):
        orders = (("x", "a", "b"), ("a", "b", "x"))
        self.assertEqual(send_page(orders, ("a", "b"), (1, 0), 1), (("a",), (2, 1)))
        self.assertEqual(send_page(orders, ("a", "b"), (1, 0), 0), ((), (1, 0)))
        self.assertEqual(send_page(orders, ("a", "b"), (1, 0), 9), (("a", "b"), (3, 3)))
        self.assertEqual(send_page(orders, ("a", "b"), (0, 3), 9), ((), (3, 3)))
        self.assertEqual(send_page(orders, (), (1, 0), 5), ((), (1, 0)))
        self.assertEqual(send_page(orders, (), (1, 1), 5), ((), (2, 1)))

    def test_a_row_that_jumps_over_the_place_of_a_device(self):
        orders = (("a", "b", "c", "d"), ("d", "a", "b", "c"))
        page, token = send_page(orders, ("a", "b", "c", "d"), (0, 0), 2)
        self.assertEqual([page, token], [("a", "b"), (2, 0)])
        page, token = send_page(orders, ("d", "a", "b", "c"), token, 1)
        self.assertEqual([page, token], [("d",), (2, 3)])
        self.assertEqual(send_page(orders, ("d", "a", "b", "c"), token, 1), (("c",), (4, 4)))

    def test_24_rows_and_40_versions(self):
        for history in [rotations(24, 40), long_history(1), long_history(2)]:
            for orders in (history, smallest_orders(history)):
                token = (0,) * len(orders)
                sent = []
                for version in history:
                    page, token = send_page(orders, version, token, 1)
                    sent += page
                    self.assertEqual(decode_token(orders, token), tuple(sorted(sent)))
                self.assertEqual(len(sent), len(set(sent)))

    def test_a_hundred_orders(self):
        orders = hundred_orders()
        for seed in range(3):
            token = tuple(Random(seed).randrange(2) for _ in orders)
            for count in (0, 1, 7, 1000):
                self.assert_page(orders, orders[seed * 49], token, count)
