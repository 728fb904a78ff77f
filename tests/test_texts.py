"""Texts of histories and feeds."""

from random import Random

from movingpages.errors import BadText
from movingpages.feed import Feed
from movingpages.reading import read_feed, read_history
from movingpages.writing import write_feed, write_history
from tests.histories import DOCUMENT, EDGES, edited_history, long_history, rotations, small_histories
from tests.samples import PagesTest, any_values, letters_rows
from tests.servers import PlainServer, drawn_operation, outcome
from tests.texts import changed_once, changed_twice, judged_feed, judged_history, reachable_feeds_text

HISTORY_TEXTS = [
    "-", "a", "b a", "b a\n-\nc", "a b\nb c a\nc a\n-", "abcdefgh z\nz abcdefgh", "a b c d\nb a c d\na b d c",
    "x a y b\na x b\nb a\nb c a",
]

FEED_TEXTS = [
    "list -\nnext 0",
    "list -\nnext 12\ndevice 3\ndevice 11",
    "list a\norder a\nnext 1\ndevice 0 1",
    "list a b\norder a b\nnext 2\ndevice 0 0\ndevice 1 2",
    "list b a\norder a b\norder b a\nnext 5\ndevice 2 1 0\ndevice 4 0 1",
    "list d a b c\norder a b c\norder a b c d\norder d a b c\nnext 100\ndevice 9 1 1 0\ndevice 10 0 0 1\n"
    "device 99 2 2 3",
    "list b a c\norder b\norder a b c\norder b a c\nnext 999999\ndevice 999998 1 0 1",
]


class HistoryTextTest(PagesTest):
    def assert_read(self, text):
        """Check the reader at any value against the judge."""
        expected = judged_history(text)
        if expected.__class__ is int:
            self.assert_raises_with(BadText, "line", expected, read_history, text)
        else:
            self.assertEqual(read_history(text), expected)
            self.assertEqual(write_history(expected), text)

    def test_what_is_written_is_read_as_the_same(self):
        histories = [*small_histories()[::3], *(edited_history(seed) for seed in range(60)), long_history(1)]
        for history in [*histories, rotations(24, 40), DOCUMENT]:
            text = write_history(history)
            self.assertEqual(read_history(text), history)
            self.assertIs(text.__class__, str)
            self.assertEqual(len(text.split("\n")), len(history))

    def test_what_is_written(self):
        self.assertEqual(write_history(((),)), "-")
        self.assertEqual(write_history((("b",),)), "b")
        self.assertEqual(write_history(((), (), ("abc", "a"))), "-\n-\nabc a")
        self.assertEqual(write_history(DOCUMENT), "a b c d\nb a c d\na b d c")

    def test_texts(self):
        for text in HISTORY_TEXTS:
            self.assertIs(judged_history(text).__class__, tuple)
            self.assert_read(text)

    def test_one_change(self):
        for text in HISTORY_TEXTS:
            for changed in changed_once(text):
                self.assert_read(changed)

    def test_two_changes(self):
        for seed, text in enumerate(HISTORY_TEXTS):
            for changed in changed_twice(text, seed, 1500):
                self.assert_read(changed)

    def test_any_value(self):
        for value in any_values():
            self.assert_read(value)
            if not isinstance(value, str):
                self.assert_raises_with(BadText, "line", 0, read_history, value)

    def test_wrong_lines(self):
        wrong = [
            ("", 0), ("\n", 0), ("a\n", 1), ("\na", 0), ("a\n\nb", 1), ("a b\na  b", 1), ("a ", 0), (" a", 0),
            ("a\tb", 0), ("a b a", 0), ("a\nb\na", 2), ("a\n-\na", 2), ("a\n-\nb\n-\nb", 4), ("a -", 0), ("- -", 0),
            ("-\n--", 1), ("a\nB", 1), ("abcdefghi", 0), ("a\na1", 1), ("a, b", 0), ("a\r\nb", 0), ("a\n b", 1),
        ]
        for text, line in wrong:
            self.assert_raises_with(BadText, "line", line, read_history, text)

    def test_24_and_25_rows(self):
        rows = " ".join(letters_rows(25))
        self.assertEqual(read_history("a\n" + rows[:-2])[1], letters_rows(24))
        self.assert_raises_with(BadText, "line", 1, read_history, "a\n" + rows)
        self.assert_raises_with(BadText, "line", 0, read_history, rows + "\n\n")

    def test_40_and_41_lines(self):
        self.assertEqual(read_history("\n".join(["a b"] * 40)), (("a", "b"),) * 40)
        self.assert_raises_with(BadText, "line", 40, read_history, "\n".join(["a b"] * 41))
        self.assert_raises_with(BadText, "line", 40, read_history, "\n".join(["-"] * 50))
        self.assert_raises_with(BadText, "line", 40, read_history, "\n".join(["-"] * 40) + "\n")
        self.assert_raises_with(BadText, "line", 7, read_history, "\n".join(["a"] * 7 + ["A"] * 40))

    def test_the_first_wrong_line(self):
        self.assert_raises_with(BadText, "line", 1, read_history, "a\nb b\nB\na")
        self.assert_raises_with(BadText, "line", 2, read_history, "a\n-\na\nB")


class FeedTextTest(PagesTest):
    def assert_read(self, text):
        """Check the reader at any value against the judge."""
        expected = judged_feed(text)
        if expected.__class__ is int:
            self.assert_raises_with(BadText, "line", expected, read_feed, text)
            return False
        feed = read_feed(text)
        version, orders, following, tokens = expected
        self.assertIs(feed.__class__, Feed)
        self.assertEqual([feed.current_version(), feed.orders()], [version, orders])
        self.assertEqual({device: feed.token_of(device) for device in feed.devices()}, tokens)
        self.assertEqual(write_feed(feed), text)
        if len(tokens) < 40:
            self.assertEqual(feed.open_device(), following)
        return True

    def test_texts(self):
        for text in FEED_TEXTS:
            self.assertTrue(self.assert_read(text))

    def test_one_change(self):
        right = 0
        for text in FEED_TEXTS:
            for changed in changed_once(text):
                right += self.assert_read(changed)
        self.assertGreater(right, 300)

    def test_two_changes(self):
        right = 0
        for seed, text in enumerate(FEED_TEXTS):
            for changed in changed_twice(text, seed, 2500):
                right += self.assert_read(changed)
        self.assertGreater(right, 300)

    def test_any_value(self):
        for value in any_values():
            self.assert_raises_with(BadText, "line", 0, read_feed, value)

    def test_what_is_written(self):
        self.assertEqual(write_feed(Feed()), "list -\nnext 0")
        self.assertEqual(write_feed(Feed(("b", "a"))), "list b a\norder b a\nnext 0")
        feed = Feed(("b", "a"))
        for _ in range(3):
            feed.open_device()
        feed.page(2, 1)
        feed.move("a", 0)
        feed.page(0, 1)
        feed.close_device(1)
        expected = "list a b\norder b a\norder a b\nnext 3\ndevice 0 0 1\ndevice 2 1 0"
        self.assertEqual(write_feed(feed), expected)
        feed.remove("a")
        feed.remove("b")
        self.assertEqual(write_feed(feed), "list -\nnext 3\ndevice 0\ndevice 2")

    def test_devices_in_ascending_order(self):
        feed = Feed(("a",))
        for _ in range(12):
            feed.open_device()
        lines = write_feed(feed).split("\n")[3:]
        self.assertEqual(lines, [f"device {number} 0" for number in range(12)])

    def test_what_is_written_is_read_as_the_same(self):
        for seed in range(60):
            chance, feed, server = Random(seed), Feed(("a", "c", "b")), PlainServer(("a", "c", "b"))
            for _ in range(40):
                operation = drawn_operation(chance, server)
                self.assertEqual(outcome(feed, *operation)[0], feed_outcome_kind(server, feed, operation))
                text = write_feed(feed)
                read = read_feed(text)
                self.assertIs(read == feed, True)
                self.assertEqual(write_feed(read), text)
                self.assertEqual(read.devices(), feed.devices())
                for device in feed.devices():
                    self.assertEqual(read.state_of(device), feed.state_of(device))
                self.assertTrue(self.assert_read(text))

    def test_every_reachable_set_as_a_state(self):
        for version, orders in [
            ("abcd", ["abcd", "bacd", "abdc"]), ("cba", ["abc", "cba"]), ("ba", ["b", "ba", "ab"]), ("", []),
            ("dabc", ["a", "ab", "abc", "abcd", "dabc"]),
        ]:
            self.assertTrue(self.assert_read(reachable_feeds_text(version, [tuple(order) for order in orders])))

    def test_wrong_lines(self):
        wrong = [
            ("", 0), ("list", 0), ("list ", 0), ("list a\n", 1), ("list a", 1), ("list -", 1), ("list a\norder a", 2),
            ("list a\norder a\n", 2), ("list a\norder a\nnext 0\n", 3), ("list a a\norder a\nnext 0", 0),
            ("lists a\norder a\nnext 0", 0), ("List a\norder a\nnext 0", 0), ("order a\nlist a\nnext 0", 0),
            ("list a\nlist a\norder a\nnext 0", 1), ("next 0", 0), ("list -\norder -\nnext 0", 1),
            ("list a\norder a a\nnext 0", 1), ("list a\norder b\nnext 0", 1), ("list a\norder\nnext 0", 1),
            ("list a b\norder a b\norder a b\nnext 0", 2), ("list a\norder a\nnext", 2),
            ("list a\norder a\nnext 00", 2), ("list a\norder a\nnext 01", 2),
            ("list a\norder a\nnext 1000000", 2), ("list a\norder a\nnext -1", 2),
            ("list a\norder a\nnext +1", 2), ("list a\norder a\nnext 1 1", 2), ("list a\norder a\nnext a", 2),
            ("list a\norder a\nnext 0\nnext 0", 3), ("list a\norder a\nnext 1\norder a", 3),
            ("list a\norder a\nnext 1\ndevice 1 0", 3), ("list a\norder a\nnext 2\ndevice 1 0\ndevice 0 0", 4),
            ("list a\norder a\nnext 2\ndevice 1 0\ndevice 1 0", 4), ("list a\norder a\nnext 1\ndevice 0", 3),
            ("list a\norder a\nnext 1\ndevice 0 0 0", 3), ("list a\norder a\nnext 1\ndevice 0 2", 3),
            ("list a\norder a\nnext 1\ndevice 0 01", 3), ("list a\norder a\nnext 1\ndevice 00 1", 3),
            ("list a\norder a\nnext 1\ndevice", 3), ("list a\norder a\nnext 1\ndevice  0", 3),
            ("list a\norder a\nnext 1\ndevice 0 0 ", 3), ("list a\norder a\nnext 1\ndevice 0 -", 3),
            ("list -\nnext 1\ndevice 0 0", 2), ("list -\nnext 1\ndevice 0 -", 2), ("list -\nnext 1\ndevice", 2),
            ("list a\norder a\ndevice 0 0\nnext 1", 2), ("list a\n\norder a\nnext 0", 1), ("list a\tb\nnext 0", 0),
        ]
        for text, line in wrong:
            self.assertEqual(judged_feed(text), line, text)
            self.assert_raises_with(BadText, "line", line, read_feed, text)

    def test_tokens_that_are_not_normal(self):
        text = "list b a\norder a b\norder b a\nnext 9\ndevice 3 "
        for token, right in [("0 0", True), ("1 0", True), ("0 1", True), ("2 2", True), ("1 1", False), ("2 0", False),
                             ("0 2", False), ("1 2", False), ("2 1", False), ("3 2", False), ("2 3", False)]:
            self.assertEqual(self.assert_read(text + token), right)
            if not right:
                self.assert_raises_with(BadText, "line", 4, read_feed, text + token)

    def test_what_is_found_only_at_next(self):
        found = [
            # Some prefix of the list is no union of prefixes of the orders.
            ("list b a\norder a b\nnext 0", 2), ("list a b\norder a\nnext 0", 2), ("list a b\nnext 0", 1),
            ("list a b c\norder a b\norder c a b\nnext 0\ndevice 7", None), ("list c b a\norder c a b\nnext 0", 2),
            ("list b a c\norder a b c\norder b c a\nnext 0", None), ("list b a c\norder a b c\norder c a b\nnext 0", 3),
            # A row is in some order and not in every later one.
            ("list a b\norder a b\norder b\nnext 0", 3), ("list a b\norder a b\norder a\norder b a\nnext 0", 4),
            ("list a b c\norder a\norder b\norder a b c\nnext 0", 4),
            ("list a b\norder b\norder a b\nnext 0", None),
        ]
        for text, line in found:
            if line is None:
                self.assert_read(text)
            else:
                self.assertEqual(judged_feed(text), line, text)
                self.assert_raises_with(BadText, "line", line, read_feed, text)
                # A wrong line before is found first, and a missing line is missing first.
                lines = text.split("\n")
                self.assert_raises_with(BadText, "line", line, read_feed, "\n".join(lines[:-1]))
                self.assert_raises_with(BadText, "line", line, read_feed, "\n".join(lines[:-1] + ["order A"]))

    def test_numbers_of_six_and_seven_digits(self):
        self.assertTrue(self.assert_read("list -\nnext 999999\ndevice 100000\ndevice 999998"))
        self.assertFalse(self.assert_read("list -\nnext 1000000"))
        self.assertFalse(self.assert_read("list -\nnext 999999\ndevice 0999998"))
        self.assertFalse(self.assert_read("list -\nnext 999999\ndevice 999999"))
        self.assertFalse(self.assert_read("list -\nnext 999999\ndevice 1000000"))
        self.assertFalse(self.assert_read("list a\norder a\nnext 9\ndevice 0 0000001"))
        self.assertFalse(self.assert_read("list a\norder a\nnext 9\ndevice 0 1000000"))

    def test_24_and_25_rows(self):
        for many in (24, 25):
            rows = " ".join(letters_rows(many))
            self.assertEqual(self.assert_read(f"list {rows}\norder {rows}\nnext 1\ndevice 0 {many}"), many == 24)
            self.assertEqual(judged_feed(f"list {rows}\norder {rows}\nnext 0") == 0, many == 25)

    def test_40_and_41_devices(self):
        lines = ["list a", "order a", "next 50"] + [f"device {number} {number % 2}" for number in range(41)]
        self.assertTrue(self.assert_read("\n".join(lines[:43])))
        self.assert_raises_with(BadText, "line", 43, read_feed, "\n".join(lines))
        self.assert_raises_with(BadText, "line", 43, read_feed, "\n".join(lines[:43] + ["device 9 0", "device 48 0"]))
        self.assert_raises_with(BadText, "line", 20, read_feed, "\n".join(lines[:20] + [""] + lines[20:]))

    def test_a_hundred_orders(self):
        rows = letters_rows(24)
        orders = [tuple(Random(seed).sample(rows, 24)) for seed in range(100)]
        text = "\n".join(["list " + " ".join(orders[50])] + ["order " + " ".join(order) for order in orders]
                         + ["next 2", "device 1 " + " ".join(["24"] * 100)])
        self.assertTrue(self.assert_read(text))
        self.assertLess(len(text), 20000)

    def test_the_example_goes_on(self):
        feed = read_feed("list b a\norder a b\norder b a\nnext 5\ndevice 2 1 0")
        self.assertEqual(feed.devices(), (2,))
        self.assertEqual([feed.page(2, 1), feed.open_device(), feed.insert("c", 0)], [("b",), 5, ("c", "b", "a")])
        self.assertEqual(feed.orders(), (("a", "b"), ("b", "a"), ("c", "b", "a")))
        expected = "list c b a\norder a b\norder b a\norder c b a\nnext 6\ndevice 2 2 2 0\ndevice 5 0 0 0"
        self.assertEqual(write_feed(feed), expected)

    def test_by_name(self):
        text = FEED_TEXTS[4]
        self.assertEqual(write_feed(feed=read_feed(text=text)), text)
        self.assertEqual(write_history(history=read_history(text=HISTORY_TEXTS[4])), HISTORY_TEXTS[4])
        self.assert_raises_with(BadText, "line", 0, read_feed, text="")
        self.assert_raises_with(BadText, "line", 0, read_history, text="")

    def test_writing_changes_nothing(self):
        feed = read_feed(FEED_TEXTS[5])
        for _ in range(3):
            self.assertEqual(write_feed(feed), FEED_TEXTS[5])


def feed_outcome_kind(server, feed, operation):
    """Do the operation with the server too, and return how it ends."""
    if operation == ("compact",):
        server.stored = list(feed.orders())
        return "returned"
    return outcome(server, *operation)[0]
