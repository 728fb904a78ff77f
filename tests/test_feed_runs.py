"""Drawn sequences of all operations of a feed, against a plain server, and guarantees G1, G5 and G6."""

from random import Random

from movingpages.chains import width_of
from movingpages.feed import Feed
from movingpages.reading import read_feed
from movingpages.rows import is_history
from movingpages.writing import write_feed
from tests.histories import unions_of
from tests.servers import FeedTest, PlainServer, drawn_operation, outcome

STARTS = [(), ("a",), ("b", "a"), ("d", "b", "a", "c"), ("a", "b", "c", "d", "e")]


def started(seed):
    """Return a source of chance, a feed and a plain server."""
    version = STARTS[seed % len(STARTS)]
    return Random(seed), Feed(version), PlainServer(version)


class ServerTest(FeedTest):
    def test_all_operations(self):
        for seed in range(150):
            chance, feed, server = started(seed)
            for _ in range(60):
                self.assert_same(feed, server, *drawn_operation(chance, server))

    def test_longer_lists(self):
        rows = "abcdefghijklmnopqrstuvwxyz"
        for seed in range(12):
            chance, feed, server = started(seed)
            for _ in range(150):
                operation = drawn_operation(chance, server, rows)
                if operation != ("compact",):
                    self.assert_same(feed, server, *operation)

    def test_the_stored_orders_and_the_version_form_a_history(self):
        for seed in range(40):
            chance, feed, server = started(seed)
            for _ in range(38):
                self.assert_same(feed, server, *drawn_operation(chance, server))
                self.assertIs(is_history(feed.orders() + (feed.current_version(),)), True)
                # Every state, and every beginning of the list, is a union of prefixes of the stored orders.
                unions = unions_of(feed.orders())
                for device in feed.devices():
                    self.assertIn(feed.state_of(device), unions)
                for many in range(len(server.version) + 1):
                    self.assertIn(tuple(sorted(server.version[:many])), unions)

    def test_compacting_leaves_as_many_orders_as_the_width(self):
        for seed in range(60):
            chance, feed, server = started(seed)
            for _ in range(30):
                operation = drawn_operation(chance, server)
                width = width_of(feed.orders() + (feed.current_version(),))
                self.assert_same(feed, server, *operation)
                if operation == ("compact",):
                    self.assertEqual(len(feed.orders()), width)
                    self.assertEqual(feed.copy().compact(), width)

    def test_a_feed_that_was_read_goes_on_in_the_same_way(self):
        for seed in range(80):
            chance, feed, server = started(seed)
            for _ in range(25):
                self.assert_same(feed, server, *drawn_operation(chance, server))
            read = read_feed(write_feed(feed))
            self.assertTrue(read == feed)
            for _ in range(25):
                operation = drawn_operation(chance, server)
                self.assertEqual(outcome(read, *operation), outcome(feed, *operation))
                self.assertEqual(write_feed(read), write_feed(feed))
                if operation == ("compact",):
                    server.stored = list(feed.orders())
                else:
                    outcome(server, *operation)
                self.assert_situation(read, server)


class ExactlyOnceTest(FeedTest):
    """Guarantee G1."""

    def test_no_row_is_sent_twice(self):
        for seed in range(150):
            chance, feed, server = started(seed)
            # What each device has, and how often each row has been inserted: a row that comes back is another one.
            had, times = {}, {row: 0 for row in feed.live()}
            for _ in range(80):
                word, *arguments = drawn_operation(chance, server, wrong=False)
                states = {device: feed.state_of(device) for device in feed.devices()}
                found = getattr(feed, word)(*arguments)
                if word == "compact":
                    server.stored = list(feed.orders())
                else:
                    self.assertEqual(getattr(server, word)(*arguments), found)
                if word == "insert":
                    times[arguments[0]] = times.get(arguments[0], 0) + 1
                if word == "open_device":
                    had[found] = set()
                if word == "merge":
                    one, other = arguments
                    had[one] = had[other] = had[one] | had[other]
                if word == "lose":
                    had[arguments[0]] = had[arguments[0]] - {(row, times[row]) for row in found}
                if word == "page":
                    self.assert_sent_once(feed, states[arguments[0]], had[arguments[0]], times, found, arguments[1])
                    had[arguments[0]] = had[arguments[0]] | {(row, times[row]) for row in found}
                for device in feed.devices():
                    live = {(row, times[row]) for row in feed.live()}
                    self.assertEqual({(row, times[row]) for row in feed.state_of(device)}, had[device] & live)

    def assert_sent_once(self, feed, state, had, times, page, count):
        self.assertEqual(len(page), len(set(page)))
        self.assertEqual([row for row in page if row in state], [])
        self.assertEqual([row for row in page if (row, times[row]) in had], [])
        self.assertLessEqual(len(page), count)
        if count > 0 and not page:
            self.assertEqual(state, feed.live())

    def test_every_row_that_stays_arrives(self):
        for seed in range(60):
            chance, feed, server = started(seed)
            device = feed.open_device()
            server.open_device()
            for _ in range(30):
                self.assert_same(feed, server, *drawn_operation(chance, server))
            if device in feed.devices():
                while feed.page(device, 2):
                    feed.move(feed.live()[0], len(feed.live()) - 1)
                self.assertEqual(feed.state_of(device), feed.live())


class ForgettingTest(FeedTest):
    """Guarantee G5."""

    def test_a_compacted_feed_and_one_that_never_is(self):
        for seed in range(150):
            chance, feed, server = started(seed)
            other = feed.copy()
            for _ in range(60):
                operation = drawn_operation(chance, server)
                if operation == ("compact",):
                    self.assertEqual(feed.compact(), width_of(other.orders() + (other.current_version(),)))
                elif operation[0] != "token_of":
                    outcome(server, *operation)
                    self.assertEqual(outcome(feed, *operation), outcome(other, *operation))
                for word in ("current_version", "live", "devices"):
                    self.assertEqual(getattr(feed, word)(), getattr(other, word)())
                for device in feed.devices():
                    self.assertEqual(feed.state_of(device), other.state_of(device))
            self.assertEqual(unions_of(feed.orders()), unions_of(other.orders()))


class LossesTest(FeedTest):
    """Guarantee G6."""

    def test_the_greatest_union_of_prefixes_without_the_lost_rows(self):
        tried = 0
        for seed in range(200):
            chance, feed, server = started(seed)
            for _ in range(50):
                word, *arguments = drawn_operation(chance, server, wrong=False)
                if word == "lose":
                    device, rows = arguments
                    state = feed.state_of(device)
                    inside = [some for some in unions_of(feed.orders()) if set(some) <= set(state) - set(rows)]
                    greatest = max(inside, key=len)
                    lost = feed.lose(device, rows)
                    self.assertEqual(feed.state_of(device), greatest)
                    self.assertTrue(all(set(some) <= set(greatest) for some in inside))
                    self.assertEqual(lost, tuple(row for row in state if row not in greatest))
                    self.assertLessEqual(set(rows), set(lost))
                    server.lose(device, rows)
                    tried += len(rows) > 0
                elif word == "compact":
                    self.assert_compacted(feed, server)
                else:
                    self.assertEqual(getattr(feed, word)(*arguments), getattr(server, word)(*arguments))
        self.assertGreater(tried, 200)
