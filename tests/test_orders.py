"""Orders through chains, the fewest orders, and what is wrong with other orders."""

from functools import lru_cache
from itertools import combinations, permutations, product
from random import Random

from movingpages.chains import find_chains, width_of
from movingpages.edits import extend_history
from movingpages.errors import BadChain
from movingpages.orders import order_gap, order_through, smallest_orders
from movingpages.reach import all_reachable
from movingpages.states import is_reachable
from tests.histories import (
    DOCUMENT, EDGES, defined_path_sets, defined_reachable, defined_width, edited_history, fewer_histories, free_chains,
    long_history, prefix_sets_of, rotations, small_histories, unions_of, walked_sets,
)
from tests.samples import CHANGES, PagesTest, any_values, as_list, letters_rows, variants

LEFT = EDGES["rows that left before each live row"]
LATE = EDGES["rows inserted late"]
SOME = [DOCUMENT, *EDGES.values(), *(edited_history(seed) for seed in range(12))]


def is_defined_chain(history, value):
    """Return whether any value is a tuple of reachable sets, each a proper subset of the next one."""
    if value.__class__ is not tuple or not all(defined_reachable(history, rows) for rows in value):
        return False
    return all(set(one) < set(other) for one, other in zip(value, value[1:]))


def drawn_chain(history, chance):
    """Return the prefix sets of some way to send all live rows, one at a time."""
    chain = [()]
    while len(chain[-1]) < len(history[-1]):
        larger = [rows for rows in walked_sets(history)
                  if len(rows) == len(chain[-1]) + 1 and set(chain[-1]) < set(rows)]
        chain.append(chance.choice(larger))
    return chain


def chains_of(history, many):
    """Return chains of reachable sets: the empty one, single sets, pairs, and long ones with sets left out."""
    found = [()] + [(rows,) for rows in walked_sets(history)]
    found += [pair for pair in combinations(walked_sets(history), 2) if set(pair[0]) < set(pair[1])]
    for seed in range(many):
        chance = Random(seed)
        chain = drawn_chain(history, chance)
        found += [tuple(chain), tuple(rows for rows in chain if chance.random() < 0.5)]
    return found


class OrderThroughTest(PagesTest):
    def assert_order(self, history, chain):
        order = order_through(history, chain)
        prefixes = prefix_sets_of(order)
        self.assertIs(order.__class__, tuple)
        self.assertEqual(sorted(order), sorted(history[-1]))
        self.assertTrue(all(is_reachable(history, rows) for rows in prefixes))
        self.assertTrue(all(rows in prefixes for rows in chain))

    def assert_right(self, history, value):
        """Check the function at any value: an order if it is a chain, and the error if it is not."""
        if is_defined_chain(history, value):
            self.assert_order(history, value)
        else:
            self.assert_raises_with(BadChain, "chain", value, order_through, history, value)

    def test_chains(self):
        for history in fewer_histories():
            for chain in chains_of(history, 3):
                self.assert_order(history, chain)

    def test_the_prefixes_are_walked(self):
        for history in fewer_histories():
            reachable = walked_sets(history)
            self.assertTrue(all(rows in reachable for rows in prefix_sets_of(order_through(history, ()))))

    def test_the_empty_chain(self):
        for history in small_histories():
            self.assert_order(history, ())
        self.assertEqual(order_through((("b", "a", "c"),), ()), ("b", "a", "c"))

    def test_one_order_alone_is_right(self):
        self.assertEqual(order_through(DOCUMENT, (("b",), ("a", "b", "d"))), ("b", "a", "d", "c"))
        self.assertEqual(order_through(DOCUMENT, ((), ("a",), ("a", "b", "c"))), ("a", "b", "c", "d"))
        self.assertEqual(order_through(LEFT, (("b",), ("b", "c"))), ("b", "c", "a"))
        self.assertEqual(order_through(LEFT, (("c",), ("a", "c"))), ("c", "a", "b"))
        self.assertEqual(order_through(LATE, (("b",), ("a", "b"), ("a", "b", "c"))), ("b", "a", "c", "d"))
        self.assertEqual(order_through(LATE, (("c",), ("b", "c", "d"))), ("c", "b", "d", "a"))

    def test_no_live_rows(self):
        for history in [((),), ((), ()), (("a", "b"), ())]:
            for chain in [(), ((),)]:
                self.assertEqual(order_through(history, chain), ())
            for chain in [((), ()), (("a",),), ((), ("a",)), [], [()], ([],)]:
                self.assert_raises_with(BadChain, "chain", chain, order_through, history, chain)

    def test_any_value(self):
        for history in SOME:
            for value in any_values():
                self.assert_right(history, value)
                self.assert_right(history, (value,))
                self.assert_right(history, ((), value))
                self.assert_right(history, (value, tuple(sorted(history[-1]))))

    def test_any_changed_part(self):
        for history in SOME:
            for chain in chains_of(history, 1)[::5]:
                for change in CHANGES:
                    for value in variants(chain, change):
                        self.assert_right(history, value)

    def test_a_list_in_place_of_a_tuple(self):
        for history in SOME:
            for chain in chains_of(history, 2):
                for value in variants(chain, as_list):
                    self.assert_raises_with(BadChain, "chain", value, order_through, history, value)

    def test_wrong_chains(self):
        a, b, both, most = ("a",), ("b",), ("a", "b"), ("a", "b", "d")
        wrong = [
            (a, a), ((), ()), (a, both, both), (both, a), (most, both, a), (a, b), (b, a), (a, b, both), ((), most, ()),
            (("c",),), (a, ("a", "c")), (a, ("a", "d")), (("b", "a"),), (("a", "a"),), (("x",),), (a, ("a", "x")), a,
            (a, both, ("b", "a", "d")), ("a",), ("ab",), (both, most, ("a", "b", "c", "d"), ("a", "b", "c", "d", "e")),
            (True,), (0,), (None,), ((None,),), ((0,), (0, 1)), "a", "", 0, None, True, {}, {a: both}, [a, both],
        ]
        for chain in wrong:
            self.assert_raises_with(BadChain, "chain", chain, order_through, DOCUMENT, chain)
        for chain in [(("x",),), (("a", "x"),), (("a",), ("a", "x")), (("z",), ("c", "z"))]:
            self.assert_raises_with(BadChain, "chain", chain, order_through, LEFT, chain)

    def test_24_rows_and_40_versions(self):
        rows = letters_rows(24)
        self.assert_order(rotations(24, 40), ((rows[5],), rows[5:9], rows[3:12], rows))
        wrong = (rows[:3], rows[1:7])
        self.assert_raises_with(BadChain, "chain", wrong, order_through, rotations(24, 40), wrong)
        for seed in range(3):
            history = long_history(seed)
            for chain in find_chains(history):
                self.assert_order(history, chain)
                self.assert_order(history, chain[::3])
            self.assert_order(history, ())


@lru_cache(maxsize=None)
def fewest_orders(live, reachable):
    """Return the smallest number of orders whose unions of prefix sets are these sets, by trying all of them."""
    orders = [order for many in range(len(live) + 1) for order in permutations(live, many)]
    orders = [order for order in orders if all(rows in reachable for rows in prefix_sets_of(order))]
    many = 0
    while not any(unions_of(some) == reachable for some in combinations(orders, many)):
        many += 1
    return many


class SmallestOrdersTest(PagesTest):
    def assert_orders(self, history, many):
        """Check that the orders are so many, of all live rows, and that no gap is found."""
        orders = smallest_orders(history)
        self.assertEqual([orders.__class__, len(orders), width_of(history)], [tuple, many, many])
        for order in orders:
            self.assertIs(order.__class__, tuple)
            self.assertEqual(sorted(order), sorted(history[-1]))
        self.assertIsNone(order_gap(history, orders))
        return orders

    def test_the_unions_are_the_reachable_sets(self):
        for history in small_histories():
            orders = self.assert_orders(history, defined_width(history))
            self.assertEqual(unions_of(orders), all_reachable(history))
            self.assertEqual(unions_of(orders), walked_sets(history))

    def test_no_fewer_orders_have_these_unions(self):
        for history in small_histories():
            if len(history[-1]) < 4 or len(walked_sets(history)) < 9:
                many = fewest_orders(tuple(sorted(history[-1])), walked_sets(history))
                self.assertEqual(len(smallest_orders(history)), many)

    def test_some_four_rows(self):
        for history in [DOCUMENT, LATE, rotations(4, 2), rotations(4, 3), free_chains([2, 2]), free_chains([1, 1, 2])]:
            many = fewest_orders(tuple(sorted(history[-1])), walked_sets(history))
            self.assertEqual(len(smallest_orders(history)), many)

    def test_no_live_rows(self):
        for history in [((),), ((), ()), (("a", "b"), ())]:
            self.assertEqual(smallest_orders(history), ())

    def test_a_list_that_only_grows(self):
        rows = letters_rows(24)
        history = ((),)
        for many, row in enumerate(rows):
            history = extend_history(history, ("insert", row, many))
        self.assertEqual(self.assert_orders(history, 1), (rows,))

    def test_a_list_and_its_reverse(self):
        for many in range(2, 25):
            rows = letters_rows(many)
            backwards = tuple(reversed(rows))
            self.assertEqual(sorted(self.assert_orders((rows, backwards), 2)), [rows, backwards])

    def test_each_row_moved_to_the_front_once(self):
        for many in (1, 2, 5, 24):
            history = (letters_rows(many),)
            for row in letters_rows(many):
                history = extend_history(history, ("move", row, 0))
            firsts = [order[0] for order in self.assert_orders(history, many)]
            self.assertEqual(sorted(firsts), sorted(letters_rows(many)))

    def test_24_rows_and_40_versions(self):
        self.assert_orders(rotations(24, 40), 24)
        self.assert_orders(rotations(24, 7), 7)
        self.assert_orders(free_chains([1, 2, 3, 4, 5, 6]), 6)
        for seed in range(3):
            self.assert_orders(long_history(seed), width_of(long_history(seed)))

    def test_more_than_40_versions(self):
        # A feed may have a hundred stored orders, and its current version follows them.
        history = long_history(5, 24, 101)
        self.assert_orders(history, width_of(history))


def defined_order_gap(history, orders):
    """Return what the document says of these orders."""
    reachable = walked_sets(history)
    shown = [rows for order in orders for rows in prefix_sets_of(order)]
    for rows in shown:
        if rows not in reachable:
            return ("extra", rows)
    for path in defined_path_sets(history):
        if path not in shown:
            return ("missing", path)
    return None


def orders_of(live):
    """Return all orders of these live rows."""
    return [order for many in range(len(live) + 1) for order in permutations(live, many)]


class OrderGapTest(PagesTest):
    def assert_gap(self, history, orders):
        gap = order_gap(history, orders)
        self.assertEqual(gap, defined_order_gap(history, orders))
        self.assertEqual(gap is None, unions_of(orders) == walked_sets(history))
        if gap is not None:
            self.assertEqual([gap.__class__, gap[1].__class__], [tuple, tuple])

    def test_all_orders_of_few_rows(self):
        for history in small_histories()[::5]:
            if len(history[-1]) < 4:
                orders = orders_of(sorted(history[-1]))
                for many in (0, 1, 2):
                    for some in product(orders, repeat=many):
                        self.assert_gap(history, some)

    def test_drawn_orders(self):
        for number, history in enumerate(small_histories()):
            chance = Random(number)
            right = smallest_orders(history)
            live = list(history[-1])
            for _ in range(4):
                drawn = tuple(chance.sample(live, chance.randrange(len(live) + 1)))
                self.assert_gap(history, right + (drawn,))
                self.assert_gap(history, (drawn,) + right)
                self.assert_gap(history, (right + (drawn,))[1:])
            for place, order in enumerate(right):
                self.assert_gap(history, right[:place] + (order[:-1],) + right[place + 1:])
                self.assert_gap(history, right[:place] + right[place + 1:])

    def test_no_orders_and_orders_without_rows(self):
        for orders in [(), ((),), ((), ())]:
            self.assertEqual(order_gap(DOCUMENT, orders), ("missing", ("a",)))
            for history in [((),), (("a", "b"), ())]:
                self.assertIsNone(order_gap(history, orders))

    def test_orders_of_some_of_the_live_rows(self):
        self.assertIsNone(order_gap(DOCUMENT, (("a", "b", "c"), ("b", "a", "d"))))
        self.assertIsNone(order_gap(DOCUMENT, (("a",), ("b",), ("b", "a", "d"), ("b", "a", "c"))))
        self.assertEqual(order_gap(DOCUMENT, (("a", "b", "c"), ("b", "a"))), ("missing", ("a", "b", "d")))
        self.assertEqual(order_gap(DOCUMENT, (("a", "b", "c"), ("b", "d"))), ("extra", ("b", "d")))

    def test_the_first_set_that_is_not_reachable(self):
        self.assertEqual(order_gap(DOCUMENT, (("b", "d", "a"), ("c",))), ("extra", ("b", "d")))
        self.assertEqual(order_gap(DOCUMENT, (("c",), ("b", "d", "a"))), ("extra", ("c",)))
        self.assertEqual(order_gap(DOCUMENT, (("a", "b", "c", "d"), ("d", "c"))), ("extra", ("d",)))
        self.assertEqual(order_gap(DOCUMENT, (("a", "d", "c"),)), ("extra", ("a", "d")))

    def test_the_first_path_that_is_missing(self):
        self.assertEqual(order_gap(DOCUMENT, (("a", "b", "c"),)), ("missing", ("b",)))
        self.assertEqual(order_gap(DOCUMENT, (("a", "b", "d"), ("b",))), ("missing", ("a", "b", "c")))
        # Of the two paths of b the one with fewer rows comes first.
        history = (("a", "c", "b"), ("d", "b", "a", "c"))
        self.assertEqual(order_gap(history, (("a", "c"), ("d",))), ("missing", ("b", "d")))
        self.assertEqual(order_gap(history, (("a",), ("d", "b"))), ("missing", ("a", "b", "c")))

    def test_a_hundred_orders_with_the_needed_ones_last(self):
        right = (("a", "b", "c", "d"), ("b", "a", "d", "c"))
        self.assertIsNone(order_gap(DOCUMENT, (("a", "b"),) * 98 + right))
        self.assertEqual(order_gap(DOCUMENT, (("a", "b"),) * 99 + right[:1]), ("missing", ("b",)))
        self.assertEqual(order_gap(DOCUMENT, right + (("a", "b"),) * 97 + (("a", "c"),)), ("extra", ("a", "c")))

    def test_24_rows_and_40_versions(self):
        rows = letters_rows(24)
        history = rotations(24, 40)
        self.assertIsNone(order_gap(history, history))
        self.assertEqual(order_gap(history, history[:23]), ("missing", (rows[23],)))
        self.assertEqual(order_gap((rows,) * 40, history[:2]), ("extra", (rows[1],)))
        for seed in range(2):
            history = long_history(seed)
            self.assertIsNone(order_gap(history, history))
            orders = smallest_orders(history)
            self.assertEqual(order_gap(history, orders[1:])[0], "missing")
            self.assertIsNone(order_gap(history, orders[:1] * (100 - len(orders)) + orders))
