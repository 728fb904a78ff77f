"""The class Feed, method by method."""

from random import Random

from movingpages.chains import width_of
from movingpages.compare import same_reach
from movingpages.errors import (
    BadCount, BadIndex, BadRow, BadRows, BadVersion, DuplicateRow, MissingRow, NoDevice, TooLong, TooMany,
)
from movingpages.feed import Feed
from movingpages.orders import order_gap
from movingpages.rows import is_version
from movingpages.writing import write_feed
from tests.samples import CHANGES, PagesTest, any_values, letters_rows, variants
from tests.servers import FeedTest, PlainServer, normal_token, outcome, rows_of


def both(version, devices=0):
    """Return a feed and a plain server with the same list and so many open devices."""
    feed, server = Feed(version), PlainServer(version)
    for _ in range(devices):
        feed.open_device()
        server.open_device()
    return feed, server


def used_pair():
    """Return a feed and a plain server with devices 1 and 2 open, some rows sent, and several orders."""
    feed, server = both(("a", "b", "c", "d"), 4)
    for served in (feed, server):
        served.page(1, 2)
        served.move("d", 0)
        served.page(2, 2)
        served.insert("e", 2)
        served.page(1, 1)
        served.close_device(0)
        served.close_device(3)
    return feed, server


class NewFeedTest(FeedTest):
    def test_no_version(self):
        for feed in (Feed(), Feed(()), Feed(version=())):
            self.assertEqual([feed.current_version(), feed.live(), feed.orders(), feed.devices()], [()] * 4)

    def test_versions(self):
        for many in (1, 2, 3, 24):
            version = rows_of(many)
            for feed in (Feed(version), Feed(version=version)):
                self.assertEqual(feed.current_version(), version)
                self.assertEqual(feed.live(), tuple(sorted(version)))
                self.assertEqual(feed.orders(), (version,))
                self.assertEqual(feed.devices(), ())

    def test_any_value(self):
        for value in any_values():
            for version in (value, (value,), ("a", value), ("c", "b", value)):
                if is_version(version):
                    self.assertEqual(Feed(version).current_version(), version)
                else:
                    self.assert_raises_with(BadVersion, "version", version, Feed, version)

    def test_any_changed_part(self):
        for change in CHANGES:
            for version in variants(("c", "a", "b"), change):
                if not is_version(version):
                    self.assert_raises_with(BadVersion, "version", version, Feed, version)

    def test_more_than_24_rows(self):
        self.assert_raises_with(BadVersion, "version", rows_of(25), Feed, rows_of(25))


class EditTest(FeedTest):
    def test_insert(self):
        feed, server = both(())
        for row, index in [("b", 0), ("a", 0), ("c", 2), ("d", 1)]:
            self.assert_same(feed, server, "insert", row, index)
        self.assertEqual(feed.current_version(), ("a", "d", "b", "c"))
        self.assertEqual(feed.orders(), (("b",), ("a", "b"), ("a", "b", "c"), ("a", "d", "b", "c")))

    def test_remove(self):
        feed, server = both(("a", "b", "c"), 1)
        self.assert_same(feed, server, "page", 0, 2)
        for row in "bca":
            self.assert_same(feed, server, "remove", row)
        self.assertEqual([feed.current_version(), feed.live(), feed.orders(), feed.token_of(0)], [(), (), (), ()])

    def test_move(self):
        feed, server = both(("a", "b", "c"), 1)
        self.assert_same(feed, server, "page", 0, 1)
        for row, index in [("c", 0), ("c", 0), ("a", 2), ("b", 1), ("a", 0)]:
            self.assert_same(feed, server, "move", row, index)

    def test_the_three_steps(self):
        feed = Feed(("a", "b"))
        feed.insert("c", 0)
        feed.insert("d", 3)
        self.assertEqual(feed.orders(), (("a", "b"), ("c", "a", "b"), ("c", "a", "b", "d")))
        # First c leaves each order, then the version is added, then what equals an earlier order is dropped.
        feed.remove("c")
        self.assertEqual(feed.orders(), (("a", "b"), ("a", "b", "d")))
        feed.move("d", 0)
        feed.remove("a")
        self.assertEqual(feed.orders(), (("b",), ("b", "d"), ("d", "b")))
        feed.remove("b")
        self.assertEqual(feed.orders(), (("d",),))
        feed.remove("d")
        self.assertEqual(feed.orders(), ())

    def test_an_order_whose_rows_all_leave_is_dropped(self):
        feed = Feed(("x",))
        feed.insert("a", 1)
        feed.insert("b", 2)
        feed.remove("x")
        self.assertEqual(feed.orders(), (("a",), ("a", "b")))

    def test_the_last_stored_order_need_not_be_the_version(self):
        feed = Feed(("a", "b"))
        feed.move("b", 0)
        feed.move("b", 1)
        self.assertEqual([feed.current_version(), feed.orders()], [("a", "b"), (("a", "b"), ("b", "a"))])

    def test_a_row_that_is_inserted_again_is_new(self):
        feed, server = both(("a", "b", "c"), 2)
        self.assert_same(feed, server, "page", 0, 3)
        self.assert_same(feed, server, "page", 1, 1)
        self.assert_same(feed, server, "remove", "a")
        self.assert_same(feed, server, "insert", "a", 1)
        self.assertEqual([feed.state_of(0), feed.state_of(1)], [("b", "c"), ()])
        self.assertEqual(feed.orders(), (("b", "c"), ("b", "a", "c")))
        self.assertEqual([feed.page(0, 9), feed.page(1, 9)], [("a",), ("b", "a", "c")])

    def test_any_value(self):
        for value in any_values():
            for word, arguments in [
                ("insert", (value, 0)), ("insert", (value, value)), ("insert", ("z", value)), ("insert", ("a", value)),
                ("remove", (value,)), ("move", (value, 0)), ("move", (value, value)), ("move", ("c", value)),
            ]:
                feed, server = used_pair()
                self.assert_same(feed, server, word, *arguments)

    def test_the_first_error(self):
        wrong = [
            ("insert", ("A", 99), BadRow, "row", "A"),
            ("insert", (None, None), BadRow, "row", None),
            ("insert", ("a", 99), DuplicateRow, "row", "a"),
            ("insert", ("z", 6), BadIndex, "index", 6),
            ("insert", ("z", -1), BadIndex, "index", -1),
            ("insert", ("z", True), BadIndex, "index", True),
            ("remove", ("z",), MissingRow, "row", "z"),
            ("remove", (["a"],), MissingRow, "row", ["a"]),
            ("move", ("z", 99), MissingRow, "row", "z"),
            ("move", ("a", 5), BadIndex, "index", 5),
            ("move", ("a", False), BadIndex, "index", False),
        ]
        for word, arguments, error, field, value in wrong:
            feed, server = used_pair()
            before = write_feed(feed)
            self.assert_raises_with(error, field, value, getattr(feed, word), *arguments)
            self.assertEqual(write_feed(feed), before)
            self.assert_situation(feed, server)

    def test_24_rows(self):
        feed, server = both(rows_of(23), 1)
        self.assert_same(feed, server, "page", 0, 7)
        self.assert_same(feed, server, "insert", "zz", 3)
        before = write_feed(feed)
        self.assert_raises_with(TooLong, "limit", 24, feed.insert, "yy", 0)
        self.assert_raises_with(TooLong, "limit", 24, feed.insert, "yy", 24)
        self.assert_raises_with(BadIndex, "index", 25, feed.insert, "yy", 25)
        self.assert_raises_with(DuplicateRow, "row", "zz", feed.insert, "zz", 0)
        self.assert_raises_with(BadRow, "row", "ZZ", feed.insert, "ZZ", 0)
        self.assertEqual(write_feed(feed), before)
        self.assert_situation(feed, server)
        self.assert_same(feed, server, "move", "zz", 23)
        self.assert_same(feed, server, "remove", "zz")
        self.assert_same(feed, server, "insert", "yy", 23)


class DeviceTest(FeedTest):
    def test_numbers_are_never_the_same_twice(self):
        feed, server = both(("a", "b"))
        for number in range(6):
            self.assertEqual(feed.open_device(), number)
        for number in (1, 5, 0, 3, 2, 4):
            self.assertIsNone(feed.close_device(number))
        self.assertEqual(feed.devices(), ())
        self.assertEqual([feed.open_device(), feed.open_device()], [6, 7])
        self.assertEqual(feed.devices(), (6, 7))
        self.assertEqual(feed.state_of(6), ())

    def test_a_new_device_has_been_sent_nothing(self):
        feed, server = used_pair()
        number = feed.open_device()
        self.assertEqual([number, feed.state_of(number)], [4, ()])
        self.assertEqual(feed.token_of(number), (0,) * len(feed.orders()))

    def test_40_open_devices(self):
        feed, server = both(("a", "b"), 40)
        self.assert_same(feed, server, "page", 39, 1)
        before = write_feed(feed)
        for _ in range(3):
            self.assert_raises_with(TooMany, "most", 40, feed.open_device)
            self.assertEqual(write_feed(feed), before)
            self.assert_situation(feed, server)
        for number in (0, 17, 39):
            self.assert_same(feed, server, "close_device", number)
            self.assert_same(feed, server, "open_device")
            self.assert_raises_with(TooMany, "most", 40, feed.open_device)
        self.assertEqual(feed.devices()[-3:], (40, 41, 42))

    def test_any_value_as_device(self):
        for value in any_values():
            calls = [
                ("close_device", (value,)), ("state_of", (value,)), ("token_of", (value,)), ("page", (value, 1)),
                ("page", (value, value)), ("merge", (value, 2)), ("merge", (1, value)), ("merge", (value, value)),
                ("merge", (value, 99)), ("merge", (99, value)), ("lose", (value, ())), ("lose", (value, value)),
            ]
            for word, arguments in calls:
                feed, server = used_pair()
                self.assert_same(feed, server, word, *arguments)

    def test_closed_and_not_opened_yet(self):
        for device in (0, 3, 4, 5, -1, 40, True, False, "1", 10 ** 30, (1,), [1], {1: 1}, None):
            calls = [
                ("close_device", ()), ("state_of", ()), ("token_of", ()), ("page", (1,)), ("page", (-1,)),
                ("page", (None,)), ("merge", (1,)), ("merge", (-7,)), ("lose", ((),)), ("lose", (None,)),
            ]
            for word, others in calls:
                feed, server = used_pair()
                before = write_feed(feed)
                self.assert_raises_with(NoDevice, "device", device, getattr(feed, word), device, *others)
                self.assertEqual(write_feed(feed), before)
                self.assert_situation(feed, server)

    def test_true_is_not_device_1(self):
        feed, server = both(("a",), 2)
        for device in (True, False):
            for word, others in [("close_device", ()), ("state_of", ()), ("page", (1,)), ("merge", (0,))]:
                self.assert_raises_with(NoDevice, "device", device, getattr(feed, word), device, *others)
            self.assert_raises_with(NoDevice, "device", device, feed.merge, 1, device)
        self.assert_situation(feed, server)


class PageTest(FeedTest):
    def test_counts(self):
        for count in (0, 1, 2, 3, 4, 5, 999, 1000):
            for device in (1, 2):
                feed, server = used_pair()
                self.assert_same(feed, server, "page", device, count)
                self.assert_same(feed, server, "page", device, count)

    def test_wrong_counts(self):
        for count in [-1, 1001, 10 ** 20, True, False, None, "1", (1,), [1], {}, ""]:
            feed, server = used_pair()
            before = write_feed(feed)
            self.assert_raises_with(BadCount, "count", count, feed.page, 1, count)
            self.assertEqual(write_feed(feed), before)
            self.assert_situation(feed, server)

    def test_any_value_as_count(self):
        for value in any_values():
            feed, server = used_pair()
            self.assert_same(feed, server, "page", 1, value)

    def test_an_empty_list(self):
        feed, server = both((), 1)
        self.assert_same(feed, server, "page", 0, 1000)
        self.assertEqual([feed.page(0, 5), feed.state_of(0), feed.token_of(0)], [(), (), ()])

    def test_a_row_that_jumps_over_a_device(self):
        feed = Feed(("a", "b", "c", "d"))
        device = feed.open_device()
        self.assertEqual(feed.page(device, 2), ("a", "b"))
        feed.move("d", 0)
        feed.move("a", 3)
        self.assertEqual(feed.page(device, 1), ("d",))
        self.assertEqual(feed.page(device, 5), ("c",))
        self.assertEqual(feed.page(device, 5), ())
        self.assertEqual(feed.state_of(device), feed.live())


class MergeTest(FeedTest):
    def test_both_have_the_union(self):
        for pair in [(1, 2), (2, 1), (1, 1), (2, 2)]:
            feed, server = used_pair()
            self.assert_same(feed, server, "merge", *pair)
            self.assert_same(feed, server, "page", 1, 1)
            self.assert_same(feed, server, "page", 2, 2)

    def test_the_union_is_returned(self):
        feed = Feed(("a", "b", "c"))
        one, other = feed.open_device(), feed.open_device()
        feed.page(one, 1)
        feed.move("c", 0)
        feed.page(other, 1)
        self.assertEqual(feed.merge(one, other), ("a", "c"))
        self.assertEqual([feed.state_of(one), feed.state_of(other)], [("a", "c")] * 2)
        # They go on independently of each other.
        self.assertEqual([feed.page(one, 1), feed.state_of(other)], [("b",), ("a", "c")])

    def test_the_first_that_is_not_open(self):
        for one, other, wrong in [(7, 8, 7), (1, 8, 8), (8, 1, 8), (None, [], None), (1, True, True), (True, 1, True)]:
            feed, server = used_pair()
            before = write_feed(feed)
            self.assert_raises_with(NoDevice, "device", wrong, feed.merge, one, other)
            self.assertEqual(write_feed(feed), before)
            self.assert_situation(feed, server)


class LoseTest(FeedTest):
    def test_every_part_of_the_state(self):
        feed, server = used_pair()
        state = feed.state_of(1)
        self.assertEqual(state, ("a", "b", "d"))
        for some in [(), ("a",), ("b",), ("d",), ("a", "b"), ("a", "d"), ("b", "d"), ("a", "b", "d")]:
            feed, server = used_pair()
            self.assert_same(feed, server, "lose", 1, some)
            self.assert_same(feed, server, "page", 1, 1)
            self.assert_same(feed, server, "page", 1, 9)

    def test_what_is_lost_and_what_is_kept(self):
        feed = Feed(("a", "b", "c", "d"))
        device = feed.open_device()
        feed.page(device, 4)
        feed.move("d", 0)
        feed.move("c", 1)
        # Without b the first order ends at a, but d and c stand before b in a later one.
        self.assertEqual(feed.lose(device, ("b",)), ("b",))
        self.assertEqual(feed.state_of(device), ("a", "c", "d"))
        self.assertEqual(feed.lose(device, ("d",)), ("c", "d"))
        self.assertEqual(feed.state_of(device), ("a",))
        self.assertEqual(feed.lose(device, ()), ())
        self.assertEqual(feed.page(device, 9), ("d", "c", "b"))

    def test_wrong_rows(self):
        wrong = [
            ("b", "a"), ("a", "a"), ("a", "b", "b"), ("c",), ("e",), ("z",), ("a", "z"), ["a"], [], (["a"],), "a", "",
            None, True, 0, {}, {"a": 1}, (("a",),), (0,), (True,), (None,), ("a", None), ("A",), ("d", "a"),
            ("a", "b", "c", "d"),
        ]
        for rows in wrong:
            feed, server = used_pair()
            before = write_feed(feed)
            self.assert_raises_with(BadRows, "rows", rows, feed.lose, 1, rows)
            self.assertEqual(write_feed(feed), before)
            self.assert_situation(feed, server)

    def test_any_value_as_rows(self):
        for value in any_values():
            for rows in (value, (value,), ("a", value), (value, "d")):
                feed, server = used_pair()
                self.assert_same(feed, server, "lose", 1, rows)

    def test_any_changed_part(self):
        for change in CHANGES:
            for rows in variants(("a", "b", "d"), change):
                feed, server = used_pair()
                self.assert_same(feed, server, "lose", 1, rows)

    def test_a_removed_row_is_not_in_the_state(self):
        feed, server = used_pair()
        self.assert_same(feed, server, "remove", "a")
        self.assert_same(feed, server, "lose", 1, ("a",))
        self.assert_same(feed, server, "insert", "a", 0)
        self.assert_same(feed, server, "lose", 1, ("a",))
        self.assert_same(feed, server, "lose", 1, ("d",))


class CompactTest(FeedTest):
    def test_one_feed(self):
        feed, server = used_pair()
        history = feed.orders() + (feed.current_version(),)
        states = [feed.state_of(device) for device in feed.devices()]
        self.assertEqual(self.assert_compacted(feed, server), width_of(history))
        self.assertEqual([feed.state_of(device) for device in feed.devices()], states)
        self.assert_situation(feed, server)
        self.assertEqual(self.assert_compacted(feed, server), width_of(history))
        self.assertIsNone(order_gap(history, feed.orders()))

    def test_without_rows(self):
        feed, server = both((), 2)
        self.assertEqual([feed.compact(), feed.orders()], [0, ()])
        self.assert_situation(feed, server)
        feed, server = both(("a",), 1)
        self.assert_same(feed, server, "page", 0, 1)
        self.assert_same(feed, server, "remove", "a")
        self.assertEqual([feed.compact(), feed.orders(), feed.token_of(0)], [0, (), ()])

    def test_a_list_that_only_grew(self):
        feed, server = both((), 1)
        for index, row in enumerate(letters_rows(24)):
            self.assert_same(feed, server, "insert", row, index)
        self.assert_same(feed, server, "page", 0, 5)
        self.assertEqual(len(feed.orders()), 24)
        self.assertEqual([feed.compact(), feed.orders()], [1, (letters_rows(24),)])
        self.assertEqual(feed.token_of(0), (5,))

    def test_a_hundred_stored_orders(self):
        for seed in range(2):
            chance = Random(seed)
            feed, server = both(rows_of(24), 5)
            while len(feed.orders()) < 100:
                row, index = chance.choice(rows_of(24)), chance.randrange(24)
                self.assertEqual(feed.move(row, index), server.move(row, index))
                device = chance.randrange(5)
                self.assertEqual(feed.page(device, 1), server.page(device, 1))
                lost = tuple(row for row in server.state_of(0) if chance.random() < 0.05)
                self.assertEqual(feed.lose(0, lost), server.lose(0, lost))
            self.assert_situation(feed, server)
            history = feed.orders() + (feed.current_version(),)
            many = feed.compact()
            self.assertEqual([many, len(feed.orders())], [width_of(history)] * 2)
            self.assertLess(many, 100)
            self.assertIsNone(order_gap(history, feed.orders()))
            self.assertTrue(same_reach(history, feed.orders() + (feed.current_version(),)))
            self.assertEqual({tuple(sorted(order)) for order in feed.orders()}, {letters_rows(24)})
            server.stored = list(feed.orders())
            self.assert_situation(feed, server)
            self.assertEqual(feed.compact(), many)

    def test_edits_after_compacting(self):
        feed, server = used_pair()
        self.assert_same(feed, server, "compact")
        self.assert_same(feed, server, "insert", "f", 0)
        self.assert_same(feed, server, "move", "a", 5)
        self.assert_same(feed, server, "page", 1, 2)
        self.assert_same(feed, server, "remove", "d")
        self.assert_same(feed, server, "compact")
        self.assert_same(feed, server, "page", 2, 9)


class CopyTest(FeedTest):
    edits = [
        ("insert", "z", 0), ("remove", "a"), ("move", "a", 3), ("open_device",), ("close_device", 1), ("page", 1, 1),
        ("merge", 1, 2), ("lose", 1, ("a",)),
    ]

    def test_a_copy_changes_independently(self):
        for word, *arguments in self.edits:
            feed, server = used_pair()
            twin = feed.copy()
            self.assertIs(twin.__class__, Feed)
            self.assertIsNot(twin, feed)
            before = write_feed(feed)
            getattr(twin, word)(*arguments)
            self.assertEqual(write_feed(feed), before)
            self.assert_situation(feed, server)
            self.assertNotEqual(write_feed(twin), before)
            twin = feed.copy()
            getattr(feed, word)(*arguments)
            self.assertEqual(write_feed(twin), before)
            self.assert_situation(twin, server)

    def test_a_compacted_copy(self):
        feed, server = used_pair()
        twin = feed.copy()
        twin.compact()
        self.assert_situation(feed, server)
        self.assertEqual([twin.state_of(1), twin.state_of(2)], [feed.state_of(1), feed.state_of(2)])

    def test_a_copy_goes_on_in_the_same_way(self):
        feed, server = used_pair()
        twin = feed.copy()
        for word, *arguments in self.edits:
            self.assertEqual(outcome(twin, word, *arguments), outcome(feed, word, *arguments))
            self.assertEqual(write_feed(twin), write_feed(feed))
            self.assertTrue(twin == feed)

    def test_equal(self):
        feed, server = used_pair()
        other, server = used_pair()
        for one, two in [(feed, other), (feed, feed), (feed, feed.copy()), (feed.copy().copy(), other)]:
            self.assertIs(one == two, True)
            self.assertIs(one != two, False)
        self.assertIs(Feed() == Feed(()), True)
        self.assertIs(Feed(("a", "b")) == Feed(("a", "b")), True)

    def test_not_equal(self):
        feed, server = used_pair()
        for word, *arguments in self.edits:
            other = feed.copy()
            getattr(other, word)(*arguments)
            self.assertIs(feed == other, False)
            self.assertIs(other == feed, False)
            self.assertIs(feed != other, True)
        # The next number alone makes a difference, and so does the sequence of the orders.
        other = feed.copy()
        other.close_device(other.open_device())
        self.assertIs(feed == other, False)
        one, two = Feed(("a", "b")), Feed(("b", "a"))
        one.move("b", 0)
        two.move("a", 0)
        two.move("b", 0)
        self.assertEqual([one.current_version(), sorted(one.orders())], [two.current_version(), sorted(two.orders())])
        self.assertIs(one == two, False)

    def test_a_feed_equals_nothing_else(self):
        feed, server = used_pair()
        for value in [*any_values(), write_feed(feed), feed.orders(), server, Feed, object()]:
            self.assertIs(feed == value, False)
            self.assertIs(value == feed, False)
            self.assertIs(feed != value, True)


class NamesTest(PagesTest):
    def test_by_name_and_in_another_order(self):
        calls = [
            ("insert", {"row": "z", "index": 1}), ("remove", {"row": "a"}), ("move", {"row": "a", "index": 2}),
            ("close_device", {"device": 1}), ("state_of", {"device": 1}), ("token_of", {"device": 2}),
            ("page", {"device": 1, "count": 2}), ("merge", {"one": 1, "other": 2}), ("merge", {"one": 8, "other": 9}),
            ("lose", {"device": 1, "rows": ("a",)}), ("lose", {"device": 9, "rows": None}),
            ("insert", {"row": "a", "index": 9}), ("move", {"row": "q", "index": 9}),
            ("page", {"device": 9, "count": -1}),
        ]
        for word, named in calls:
            one, two, three = [used_pair()[0] for _ in range(3)]
            expected = outcome(one, word, *named.values())
            self.assertEqual(outcome(two, word, **named), expected)
            self.assertEqual(outcome(three, word, **dict(reversed(list(named.items())))), expected)
            self.assertEqual([write_feed(two), write_feed(three)], [write_feed(one)] * 2)

    def test_every_method_stands_in_the_class(self):
        listed = (
            "current_version live orders devices insert remove move open_device close_device state_of token_of page"
            " merge lose compact copy __eq__ __init__"
        )
        for name in listed.split():
            self.assertIn(name, vars(Feed))

    def test_asking_changes_nothing(self):
        feed, server = used_pair()
        before = write_feed(feed)
        for _ in range(3):
            asked = [feed.current_version(), feed.live(), feed.orders(), feed.devices(), feed.state_of(1)]
            self.assertEqual({value.__class__ for value in asked}, {tuple})
            self.assertEqual(feed.token_of(1), normal_token(feed.orders(), feed.state_of(1)))
            self.assertEqual(write_feed(feed), before)

    def test_the_sets_that_were_sent_are_not_stored(self):
        feed, server = used_pair()
        self.assertEqual(sorted(feed.tokens.items()), [(device, server.token_of(device)) for device in (1, 2)])
