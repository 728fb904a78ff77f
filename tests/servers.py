"""A plain server for the tests of feeds: it keeps sets, and does slowly what the document says of a feed."""

from movingpages.edits import insert_row, move_row, remove_row
from movingpages.errors import BadCount, BadRows, NoDevice, PagesError, TooMany
from movingpages.writing import write_feed
from tests.histories import unions_of
from tests.samples import PagesTest, any_values, letters_rows


def union_within(orders, rows):
    """Return the union of all prefixes of these orders that are within the set of rows."""
    found = set()
    for order in orders:
        for many in range(len(order) + 1):
            if set(order[:many]) <= set(rows):
                found |= set(order[:many])
    return found


def normal_token(orders, rows):
    """Return for each order the length of its longest prefix within the set of rows."""
    return tuple(max(many for many in range(len(order) + 1) if set(order[:many]) <= set(rows)) for order in orders)


class PlainServer:
    def __init__(self, version=()):
        self.version = version
        self.stored = [version] if version else []
        self.sent = {}
        self.opened = 0

    def edited(self, version, gone=None):
        """Change the stored orders and the sets in the steps of the document, and return the version."""
        self.version = version
        cut = [tuple(row for row in order if row != gone) for order in self.stored]
        added = cut + [version]
        self.stored = [order for place, order in enumerate(added) if order and order not in added[:place]]
        for rows in self.sent.values():
            rows.discard(gone)
        return version

    def insert(self, row, index):
        return self.edited(insert_row(self.version, row, index))

    def remove(self, row):
        return self.edited(remove_row(self.version, row), row)

    def move(self, row, index):
        return self.edited(move_row(self.version, row, index))

    def open_device(self):
        if len(self.sent) == 40:
            raise TooMany(40)
        self.sent[self.opened] = set()
        self.opened += 1
        return self.opened - 1

    def rows_sent(self, device):
        if device.__class__ is not int or device not in self.sent:
            raise NoDevice(device)
        return self.sent[device]

    def close_device(self, device):
        self.rows_sent(device)
        del self.sent[device]

    def state_of(self, device):
        return tuple(sorted(self.rows_sent(device)))

    def token_of(self, device):
        return normal_token(self.stored, self.rows_sent(device))

    def page(self, device, count):
        sent = self.rows_sent(device)
        if count.__class__ is not int or not 0 <= count <= 1000:
            raise BadCount(count)
        page = tuple([row for row in self.version if row not in sent][:count])
        sent.update(page)
        return page

    def merge(self, one, other):
        union = self.rows_sent(one) | self.rows_sent(other)
        self.sent[one], self.sent[other] = set(union), set(union)
        return tuple(sorted(union))

    def lose(self, device, rows):
        sent = self.rows_sent(device)
        if rows.__class__ is not tuple or any(row.__class__ is not str or row not in sent for row in rows):
            raise BadRows(rows)
        if list(rows) != sorted(set(rows)):
            raise BadRows(rows)
        kept = union_within(self.stored, sent - set(rows))
        self.sent[device] = kept
        return tuple(sorted(sent - kept))

    def current_version(self):
        return self.version

    def live(self):
        return tuple(sorted(self.version))

    def orders(self):
        return tuple(self.stored)

    def devices(self):
        return tuple(sorted(self.sent))


def outcome(server, word, *arguments, **named):
    """Return what the method returns, or what it raises."""
    try:
        return ("returned", getattr(server, word)(*arguments, **named))
    except PagesError as raised:
        return (raised.__class__, vars(raised))


def drawn_operation(chance, server, rows="abcdef", wrong=True):
    """Return an operation for this server, with wrong values now and then."""
    live, devices = list(server.version), list(server.sent)
    if wrong and chance.random() < 0.1:
        word, many = chance.choice([
            ("insert", 2), ("remove", 1), ("move", 2), ("close_device", 1), ("state_of", 1), ("token_of", 1),
            ("page", 2), ("merge", 2), ("lose", 2),
        ])
        pool = live + devices + any_values()
        return (word, *(chance.choice(pool) for _ in range(many)))
    words = "insert remove move move open_device close_device page page page merge lose compact".split()
    word = chance.choice(words)
    unused = [row for row in rows if row not in live]
    if word == "insert" and unused:
        return (word, chance.choice(unused), chance.randrange(len(live) + 1))
    if word == "remove" and live and chance.random() < 0.6:
        return (word, chance.choice(live))
    if word == "move" and live:
        return (word, chance.choice(live), chance.randrange(len(live)))
    if word == "compact":
        return (word,)
    if word == "close_device" and devices and chance.random() < 0.4:
        return (word, chance.choice(devices))
    if word == "page" and devices:
        return (word, chance.choice(devices), chance.choice([0, 1, 1, 1, 2, 2, 3, 1000]))
    if word == "merge" and devices:
        return (word, chance.choice(devices), chance.choice(devices))
    if word == "lose" and devices:
        device = chance.choice(devices)
        return (word, device, tuple(row for row in sorted(server.sent[device]) if chance.random() < 0.3))
    # Few devices, so that much is sent to each.
    if len(devices) > 2 and chance.random() < 0.8:
        return ("page", chance.choice(devices), 2)
    return ("open_device",)


class FeedTest(PagesTest):
    def assert_situation(self, feed, server):
        """Check everything that can be asked of the feed."""
        for word in ("current_version", "live", "orders", "devices"):
            self.assertEqual(getattr(feed, word)(), getattr(server, word)())
        for device in server.sent:
            self.assertEqual(feed.state_of(device), server.state_of(device))
            self.assertEqual(feed.token_of(device), server.token_of(device))

    def assert_compacted(self, feed, server):
        """Compact the feed, check the new orders, and give them to the server."""
        before = unions_of(server.stored)
        many = feed.compact()
        orders = feed.orders()
        self.assertEqual([many.__class__, many], [int, len(orders)])
        self.assertEqual(unions_of(orders), before)
        for order in orders:
            self.assertEqual(sorted(order), sorted(server.version))
        server.stored = list(orders)
        return many

    def assert_same(self, feed, server, word, *arguments):
        """Do the same with the feed and the plain server, check what they return, and what has changed."""
        before = write_feed(feed)
        if word == "compact":
            self.assert_compacted(feed, server)
        else:
            expected, found = outcome(server, word, *arguments), outcome(feed, word, *arguments)
            self.assertEqual(found, expected, (word, arguments))
            if expected[0] == "returned":
                self.assertIs(found[1].__class__, expected[1].__class__)
            else:
                # True equals 1, so that equality is not enough.
                self.assertEqual(*([value.__class__ for value in told[1].values()] for told in (found, expected)))
                self.assertEqual(write_feed(feed), before)
        self.assert_situation(feed, server)


def rows_of(many):
    """Return so many rows in no alphabetical order."""
    rows = letters_rows(many)
    return rows[1::2] + rows[::2]
