"""A desk at which a feed is used by lines of text."""

from movingpages.chains import width_of
from movingpages.errors import BadLine
from movingpages.reading import read_feed, read_number
from movingpages.rows import is_row
from movingpages.writing import write_feed, write_words

MOST_DIGITS = 4


def answer_insert(feed, row, index):
    return write_words(feed.insert(row, index))


def answer_remove(feed, row):
    return write_words(feed.remove(row))


def answer_move(feed, row, index):
    return write_words(feed.move(row, index))


def answer_open(feed):
    return str(feed.open_device())


def answer_close(feed, device):
    feed.close_device(device)
    return "done"


def answer_page(feed, device, count):
    return write_words(feed.page(device, count))


def answer_merge(feed, one, other):
    return write_words(feed.merge(one, other))


def answer_lose(feed, device, *rows):
    return write_words(feed.lose(device, rows))


def answer_compact(feed):
    return str(feed.compact())


def answer_list(feed):
    return write_words(feed.current_version())


def answer_orders(feed):
    orders = feed.orders()
    if len(orders) == 0:
        return "-"
    return " | ".join([write_words(order) for order in orders])


def answer_devices(feed):
    return write_words(feed.devices())


def answer_state(feed, device):
    return write_words(feed.state_of(device))


def answer_token(feed, device):
    return write_words(feed.token_of(device))


def answer_width(feed):
    return str(width_of(feed.history()))


def answer_text(feed):
    return write_feed(feed).replace("\n", " / ")


ANSWERS = {
    "insert": answer_insert,
    "remove": answer_remove,
    "move": answer_move,
    "open": answer_open,
    "close": answer_close,
    "page": answer_page,
    "merge": answer_merge,
    "lose": answer_lose,
    "compact": answer_compact,
    "list": answer_list,
    "orders": answer_orders,
    "devices": answer_devices,
    "state": answer_state,
    "token": answer_token,
    "width": answer_width,
    "text": answer_text,
}

# What stands behind each word. "rows" stands last, for one row or more.
PARTS = {
    "insert": ("row", "number"),
    "remove": ("row",),
    "move": ("row", "number"),
    "open": (),
    "close": ("number",),
    "page": ("number", "number"),
    "merge": ("number", "number"),
    "lose": ("number", "rows"),
    "compact": (),
    "list": (),
    "orders": (),
    "devices": (),
    "state": ("number",),
    "token": ("number",),
    "width": (),
    "text": (),
}


class Desk:
    """A feed that is read from a text and answers lines."""

    def __init__(self, text="list -\nnext 0"):
        self.feed = read_feed(text)

    def say(self, line):
        """Do what the line says and return the answer."""
        if not isinstance(line, str):
            raise BadLine(line)
        word, *others = line.split(" ")
        values = read_values(word, others)
        if values is None:
            raise BadLine(line)
        answer = ANSWERS[word]
        return answer(self.feed, *values)


def read_values(word, others):
    """Return the rows and numbers that stand behind the first word, or None if this is no command."""
    if word not in PARTS:
        return None
    parts = parts_of_length(PARTS[word], len(others))
    if len(parts) != len(others):
        return None
    values = [read_value(part, other) for part, other in zip(parts, others)]
    return None if None in values else values


def parts_of_length(parts, many):
    """Return the parts with as many rows instead of "rows" as make so many parts, but at least one."""
    if parts[-1:] != ("rows",):
        return parts
    return parts[:-1] + ("row",) * max(1, many - len(parts) + 1)


def read_value(part, word):
    """Return the row or the number that the word is, or None."""
    if part == "number":
        return read_number(word, MOST_DIGITS)
    return word if is_row(word) else None
