"""A small server that sends its list to devices page by page while the list changes."""

from movingpages.edits import insert_row, move_row, remove_row
from movingpages.errors import BadCount, BadRows, BadVersion, NoDevice, TooMany
from movingpages.integers import is_integer_within
from movingpages.orders import smallest_orders
from movingpages.requests import MOST_COUNT
from movingpages.rows import is_row_set, is_version
from movingpages.tokens import decode_token, encode_state, merge_tokens, send_page
from movingpages.writing import write_feed

MOST_DEVICES = 40


class Feed:
    """A list, its stored orders, and for each open device the normal token of the rows that it has been sent."""

    def __init__(self, version=()):
        if not is_version(version):
            raise BadVersion(version)
        self.current = version
        self.stored = kept_orders([version])
        self.tokens = {}
        self.next_number = 0

    def __eq__(self, other):
        return isinstance(other, Feed) and write_feed(self) == write_feed(other)

    def current_version(self):
        """Return the current version."""
        return self.current

    def live(self):
        """Return the row set of the current version."""
        return tuple(sorted(self.current))

    def orders(self):
        """Return the stored orders."""
        return self.stored

    def devices(self):
        """Return the numbers of the open devices in ascending order."""
        return tuple(sorted(self.tokens))

    def history(self):
        """Return the history that the stored orders and the current version form."""
        return self.stored + (self.current,)

    def insert(self, row, index):
        """Insert the row at the index and return the new version."""
        return self.take_version(insert_row(self.current, row, index))

    def remove(self, row):
        """Remove the row and return the new version."""
        return self.take_version(remove_row(self.current, row))

    def move(self, row, index):
        """Move the row to the index and return the new version."""
        return self.take_version(move_row(self.current, row, index))

    def take_version(self, version):
        """Make this the current version, change the stored orders accordingly, and return it."""
        cut = [tuple([row for row in order if row in version]) for order in self.stored]
        self.current = version
        self.take_orders(kept_orders(cut + [version]))
        return version

    def take_orders(self, orders):
        """Replace the stored orders by others, whose unions of prefixes include every state."""
        states = {device: self.state_of(device) for device in self.tokens}
        self.stored = orders
        # A row that was removed is in no order any more, so it leaves the states here.
        self.tokens = {device: encode_state(orders, states[device]) for device in states}

    def open_device(self):
        """Open a device that has been sent nothing and return its number."""
        if len(self.tokens) >= MOST_DEVICES:
            raise TooMany(MOST_DEVICES)
        device = self.next_number
        self.tokens[device] = encode_state(self.stored, ())
        self.next_number = device + 1
        return device

    def close_device(self, device):
        """Close the device."""
        self.require_device(device)
        del self.tokens[device]

    def require_device(self, device):
        """Raise an error if any value is not the number of an open device."""
        # Only an integer is looked up: other values may have no hash, and True equals 1.
        if not is_integer_within(device, 0, self.next_number) or device not in self.tokens:
            raise NoDevice(device)

    def state_of(self, device):
        """Return the row set of the live rows that the device has been sent."""
        return decode_token(self.stored, self.token_of(device))

    def token_of(self, device):
        """Return the normal token of the state of the device."""
        self.require_device(device)
        return self.tokens[device]

    def page(self, device, count):
        """Send the next rows of the current version to the device and return them."""
        self.require_device(device)
        if not is_integer_within(count, 0, MOST_COUNT):
            raise BadCount(count)
        page, token = send_page(self.stored, self.current, self.tokens[device], count)
        self.tokens[device] = token
        return page

    def merge(self, one, other):
        """Give both devices the union of their states and return it."""
        token = merge_tokens(self.stored, self.token_of(one), self.token_of(other))
        self.tokens[one] = token
        self.tokens[other] = token
        return self.state_of(one)

    def lose(self, device, rows):
        """Take the rows, and what is not reachable without them, from the device, and return all that it lost."""
        state = self.state_of(device)
        # Exactly these are the row sets of a list that has the rows of the state and no others.
        if not is_row_set((state,), rows):
            raise BadRows(rows)
        left = tuple([row for row in state if row not in rows])
        self.tokens[device] = encode_state(self.stored, left)
        kept = self.state_of(device)
        return tuple([row for row in state if row not in kept])

    def compact(self):
        """Replace the stored orders by the fewest that have the same reachable sets, and return their number."""
        self.take_orders(smallest_orders(self.history()))
        return len(self.stored)

    def copy(self):
        """Return a feed in the same situation that changes independently."""
        return feed_in_situation(self.current, self.stored, self.next_number, self.tokens)


def feed_in_situation(version, orders, next_number, tokens):
    """Return a feed with these stored orders, this next number, and these open devices with normal tokens."""
    feed = Feed(version)
    feed.stored = orders
    feed.next_number = next_number
    feed.tokens = dict(tokens)
    return feed


def kept_orders(orders):
    """Return these orders without those that have no rows or equal an earlier one."""
    kept = {order: True for order in orders if len(order) > 0}
    return tuple(kept)
