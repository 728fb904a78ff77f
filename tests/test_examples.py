"""The examples e01 to e59 of the document."""

from movingpages.chains import find_antichain, find_chains, shows_antichain, shows_chains, width_of
from movingpages.compare import reach_gap, same_reach
from movingpages.desk import Desk
from movingpages.edits import extend_history, insert_row, move_row, remove_row
from movingpages.errors import (
    BadChain, BadLine, BadText, BadToken, DifferentLists, DuplicateRow, NoDevice, ReturnedRow, TooMany, Unreachable,
)
from movingpages.feed import Feed
from movingpages.orders import order_gap, order_through, smallest_orders
from movingpages.paths import all_paths, beginning_of, is_path, paths_to
from movingpages.reach import all_reachable, greatest_reachable, last_rows, next_rows, schedule_for
from movingpages.reading import read_feed, read_history
from movingpages.requests import is_schedule, page_of, run_schedule, sent_live
from movingpages.rows import is_history, is_row, is_row_set, is_version, live_rows
from movingpages.schemes import is_scheme, scheme_gap, scheme_of
from movingpages.states import (
    find_blockers, find_supports, is_reachable, prefix_lengths, shows_reachable, shows_unreachable,
)
from movingpages.tokens import decode_token, encode_state, merge_tokens, normalize_token, send_page
from movingpages.writing import write_feed, write_history
from tests.samples import PagesTest

HISTORY = (("a", "b", "c", "d"), ("b", "a", "c", "d"), ("a", "b", "d", "c"))
ORDERS = (("a", "b", "c", "d"), ("b", "a", "d", "c"))


class ExamplesTest(PagesTest):
    def test_e01(self):
        told = [is_row("abc"), is_row("Abc"), is_version(("b", "a")), is_version(("a", "a"))]
        self.assertEqual(told, [True, False, True, False])

    def test_e02(self):
        told = [is_history((("a", "b"), ("b",), ("b", "c"))), is_history((("a",), (), ("a",)))]
        self.assertEqual(told, [True, False])

    def test_e03(self):
        self.assertEqual(live_rows((("a", "b"), ("c", "b"))), ("b", "c"))

    def test_e04(self):
        history = (("a", "b"), ("c", "b"))
        told = [is_row_set(history, value) for value in [("b", "c"), ("c", "b"), ("a",), ()]]
        self.assertEqual(told, [True, False, False, True])

    def test_e05(self):
        self.assertEqual(insert_row(("a", "b"), "c", 1), ("a", "c", "b"))

    def test_e06(self):
        self.assert_raises_with(DuplicateRow, "row", "b", insert_row, ("a", "b"), "b", 9)

    def test_e07(self):
        self.assertEqual(remove_row(("a", "b", "c"), "b"), ("a", "c"))

    def test_e08(self):
        self.assertEqual(move_row(("a", "b", "c", "d"), "a", 2), ("b", "c", "a", "d"))

    def test_e09(self):
        self.assertEqual(extend_history((("a", "b"),), ("move", "b", 0)), (("a", "b"), ("b", "a")))

    def test_e10(self):
        history = (("a", "b"), ("b",))
        self.assert_raises_with(ReturnedRow, "row", "a", extend_history, history, ("insert", "a", 7))

    def test_e11(self):
        self.assertEqual(page_of(("d", "a", "b", "c"), ("a",), 2), ("d", "b"))

    def test_e12(self):
        history = (("a", "b"), ("b", "a"))
        told = [is_schedule(history, value) for value in [((0, 1), (1, 5)), ((1, 1), (0, 1)), ()]]
        self.assertEqual(told, [True, False, True])

    def test_e13(self):
        history = (("a", "b", "c"), ("c", "a", "b"))
        self.assertEqual(run_schedule(history, ((0, 1), (1, 1), (1, 5))), (("a",), ("c",), ("b",)))

    def test_e14(self):
        self.assertEqual(sent_live((("a", "b", "c"), ("c", "b")), ((0, 2),)), ("b",))

    def test_e15(self):
        self.assertEqual(prefix_lengths(HISTORY, ("a", "b", "d")), (2, 2, 3))

    def test_e16(self):
        told = [is_reachable(HISTORY, value) for value in [("a", "b", "d"), ("a", "c"), (), ["a"]]]
        self.assertEqual(told, [True, False, True, False])

    def test_e17(self):
        self.assertEqual(find_supports(HISTORY, ("a", "b", "d")), (0, 0, 2))

    def test_e18(self):
        told = [
            shows_reachable(HISTORY, ("a", "b"), (2, 1)),
            shows_reachable(HISTORY, ("a", "b"), (1,)),
            shows_reachable(HISTORY, ("a", "c"), (0, 2)),
        ]
        self.assertEqual(told, [True, False, False])

    def test_e19(self):
        self.assertEqual(find_blockers(HISTORY, ("a", "c")), ("c", ((0, "b"), (1, "b"), (2, "b"))))

    def test_e20(self):
        told = [
            shows_unreachable(HISTORY, ("c",), ("c", ((0, "b"), (1, "a"), (2, "d")))),
            shows_unreachable(HISTORY, ("c",), ("c", ((0, "b"), (1, "a")))),
        ]
        self.assertEqual(told, [True, False])

    def test_e21(self):
        self.assertEqual(greatest_reachable(HISTORY, ("a", "c", "d")), ("a",))

    def test_e22(self):
        self.assertEqual(next_rows(HISTORY, ("a", "b")), ("c", "d"))
        self.assertEqual(last_rows(HISTORY, ("a", "b")), ("a", "b"))
        self.assertEqual(last_rows(HISTORY, ("a", "b", "c")), ("c",))

    def test_e23(self):
        self.assert_raises_with(Unreachable, "rows", ("d",), next_rows, HISTORY, ("d",))

    def test_e24(self):
        self.assertEqual(schedule_for(HISTORY, ("a", "b", "d")), ((0, 2), (1, 0), (2, 1)))

    def test_e25(self):
        expected = ((), ("a",), ("b",), ("a", "b"), ("a", "b", "c"), ("a", "b", "d"), ("a", "b", "c", "d"))
        self.assertEqual(all_reachable(HISTORY), expected)

    def test_e26(self):
        self.assert_raises_with(TooMany, "most", 6, all_reachable, HISTORY, most=6)

    def test_e27(self):
        self.assertEqual(beginning_of(HISTORY, 2, "d"), ("a", "b", "d"))

    def test_e28(self):
        self.assertEqual(paths_to(HISTORY, "b"), (("b",),))
        self.assertEqual(paths_to(HISTORY, "c"), (("a", "b", "c"),))

    def test_e29(self):
        expected = (("a", ("a",)), ("b", ("b",)), ("c", ("a", "b", "c")), ("d", ("a", "b", "d")))
        self.assertEqual(all_paths(HISTORY), expected)

    def test_e30(self):
        told = [is_path(HISTORY, value) for value in [("a", "b", "d"), ("a", "b"), "b"]]
        self.assertEqual(told, [True, False, False])

    def test_e31(self):
        self.assertEqual(width_of(HISTORY), 2)

    def test_e32(self):
        antichain, chains = find_antichain(HISTORY), find_chains(HISTORY)
        self.assertEqual([len(antichain), len(chains)], [2, 2])
        self.assertEqual([shows_antichain(HISTORY, antichain), shows_chains(HISTORY, chains)], [True, True])

    def test_e33(self):
        told = [
            shows_antichain(HISTORY, (("b",), ("a",))),
            shows_antichain(HISTORY, (("b",),)),
            shows_chains(HISTORY, ((("a",), ("a", "b", "c")), (("b",), ("a", "b", "d")))),
        ]
        self.assertEqual(told, [False, True, True])

    def test_e34(self):
        self.assertEqual(order_through(HISTORY, (("b",), ("a", "b", "d"))), ("b", "a", "d", "c"))

    def test_e35(self):
        chain = (("a", "b"), ("b",))
        self.assert_raises_with(BadChain, "chain", chain, order_through, HISTORY, chain)

    def test_e36(self):
        orders = smallest_orders(HISTORY)
        self.assertEqual([len(orders), order_gap(HISTORY, orders)], [2, None])

    def test_e37(self):
        told = [
            order_gap(HISTORY, (("a", "b", "c", "d"), ("b", "a", "d", "c"))),
            order_gap(HISTORY, (("a", "b", "c", "d"),)),
            order_gap(HISTORY, (("b", "c"), ("c",))),
        ]
        self.assertEqual(told, [None, ("missing", ("b",)), ("extra", ("b", "c"))])

    def test_e38(self):
        self.assertEqual(encode_state(ORDERS, ("a", "b", "d")), (2, 3))
        self.assertEqual(encode_state(ORDERS, ("a", "c")), (1, 0))

    def test_e39(self):
        self.assertEqual(decode_token(ORDERS, (1, 3)), ("a", "b", "d"))
        self.assertEqual(normalize_token(ORDERS, (1, 3)), (2, 3))

    def test_e40(self):
        self.assert_raises_with(BadToken, "token", (1, 5), decode_token, ORDERS, (1, 5))

    def test_e41(self):
        self.assertEqual(merge_tokens(ORDERS, (3, 2), (2, 3)), (4, 4))

    def test_e42(self):
        self.assertEqual(send_page(ORDERS, ("a", "b", "d", "c"), (1, 0), 2), (("b", "d"), (2, 3)))

    def test_e43(self):
        told = [is_scheme(value) for value in [(((), ("a",)), ((),)), (((), ("b", "a")),), ((),), ()]]
        self.assertEqual(told, [True, False, False, True])

    def test_e44(self):
        self.assertEqual(scheme_of((("b", "a"),)), (((), ("b",), ("a", "b")),))

    def test_e45(self):
        history = (("a", "b"), ("b", "a"))
        told = [
            scheme_gap(history, (((), ("a",)), ((), ("b",)))),
            scheme_gap(history, (((), ("a", "b")),)),
            scheme_gap(history, ((("a",),),)),
            scheme_gap(history, (((), ("c",)),)),
        ]
        self.assertEqual(told, [None, ("missing", ("a",)), ("missing", ()), ("extra", ("c",))])

    def test_e46(self):
        one, other = (("a", "b"), ("b", "a")), (("b", "a"),)
        self.assertIs(same_reach(one, other), False)
        told = [reach_gap(one, other), reach_gap(other, one), reach_gap(one, one)]
        self.assertEqual(told, [(0, ("a",)), (1, ("a",)), None])

    def test_e47(self):
        last = ("b", "a")
        self.assert_raises_with(DifferentLists, "version", last, same_reach, (("a", "b"),), (last,))

    def test_e48(self):
        feed = Feed(("a", "b", "c", "d"))
        device = feed.open_device()
        told = [feed.page(device, 1), feed.move("d", 0), feed.page(device, 2), feed.state_of(device)]
        self.assertEqual(told, [("a",), ("d", "a", "b", "c"), ("d", "b"), ("a", "b", "d")])
        self.assertEqual(feed.orders(), (("a", "b", "c", "d"), ("d", "a", "b", "c")))
        self.assertEqual(feed.token_of(device), (2, 3))

    def test_e49(self):
        feed = Feed(("a", "b", "c"))
        one = feed.open_device()
        told = [feed.page(one, 2), feed.lose(one, ("a",)), feed.state_of(one), feed.page(one, 3)]
        self.assertEqual(told, [("a", "b"), ("a", "b"), (), ("a", "b", "c")])

    def test_e50(self):
        feed = Feed(("a", "b", "c", "d"))
        for row, index in [("b", 0), ("a", 0), ("d", 2)]:
            feed.move(row, index)
        told = [len(feed.orders()), feed.compact(), len(feed.orders()), feed.current_version()]
        self.assertEqual(told, [3, 2, 2, ("a", "b", "d", "c")])

    def test_e51(self):
        self.assert_raises_with(NoDevice, "device", 3, Feed(("a",)).page, 3, 1)

    def test_e52(self):
        self.assertEqual(write_history((("b", "a"), (), ("c",))), "b a\n-\nc")

    def test_e53(self):
        self.assert_raises_with(BadText, "line", 2, read_history, "b a\nb\na b")

    def test_e54(self):
        feed = Feed(("a", "b"))
        feed.page(feed.open_device(), 1)
        self.assertEqual(write_feed(feed), "list a b\norder a b\nnext 1\ndevice 0 1")

    def test_e55(self):
        feed = read_feed("list b a\norder a b\norder b a\nnext 5\ndevice 2 1 0")
        self.assertEqual([feed.state_of(2), feed.page(2, 1), feed.open_device()], [("a",), ("b",), 5])

    def test_e56(self):
        self.assert_raises_with(BadText, "line", 2, read_feed, "list b a\norder a b\nnext 0")

    def test_e57(self):
        desk = Desk()
        first = [desk.say(line) for line in ("insert b 0", "insert a 0", "open", "page 0 1")]
        second = [desk.say(line) for line in ("move b 0", "orders", "page 0 5", "token 0", "width")]
        self.assertEqual(first, ["b", "a b", "0", "a"])
        self.assertEqual(second, ["b a", "b | a b | b a", "b", "1 2 2", "2"])

    def test_e58(self):
        self.assert_raises_with(BadLine, "line", "page 0", Desk().say, "page 0")

    def test_e59(self):
        self.assertEqual(prefix_lengths((("a", "x", "b"), ("b", "a")), ("a",)), (2, 0))
