"""Histories and feeds that are read from their texts."""

from movingpages.errors import BadText
from movingpages.feed import MOST_DEVICES, feed_in_situation
from movingpages.orders import prefix_sets
from movingpages.rows import is_history, is_subset, is_version
from movingpages.tokens import decode_token, encode_state, is_normal_token

MOST_DIGITS = 6


def read_history(text):
    """Return the history that the text describes."""
    history = ()
    for number, line in enumerate(lines_of(text)):
        history = history + (read_version(line.split(" ")),)
        if not is_history(history):
            raise BadText(number)
    return history


def read_feed(text):
    """Return the feed that the text describes."""
    lines = lines_of(text)
    version = read_list(lines[0])
    if version is None:
        raise BadText(0)
    orders = read_orders(version, lines[1:])
    # The first line that is no order has to be the one with the next number, or that line is missing.
    place = len(orders) + 1
    if place == len(lines):
        raise BadText(place)
    next_number = read_next(lines[place])
    if next_number is None or not orders_fit(version, orders):
        raise BadText(place)
    tokens = {}
    for number in range(place + 1, len(lines)):
        device = read_device(lines[number])
        if device is None or not device_fits(device, orders, next_number, tokens):
            raise BadText(number)
        tokens[device[0]] = device[1:]
    return feed_in_situation(version, orders, next_number, tokens)


def lines_of(text):
    """Return the lines of any value that has to be a text."""
    if not isinstance(text, str):
        raise BadText(0)
    return text.split("\n")


def read_version(words):
    """Return the version that these words are, or None."""
    if words == ["-"]:
        return ()
    version = tuple(words)
    return version if len(version) > 0 and is_version(version) else None


def read_number(word, most_digits):
    """Return the number that the word is, or None."""
    if not 1 <= len(word) <= most_digits or not all(["0" <= digit <= "9" for digit in word]):
        return None
    if len(word) > 1 and word[0] == "0":
        return None
    return int(word)


def read_list(line):
    """Return the version of a line with the list, or None."""
    words = line.split(" ")
    return read_version(words[1:]) if words[0] == "list" else None


def read_orders(version, lines):
    """Return the stored orders of this list up to the first line that has none."""
    orders = ()
    for line in lines:
        order = read_order(line)
        if order is None or order in orders or not is_subset(order, version):
            return orders
        orders = orders + (order,)
    return orders


def read_order(line):
    """Return the rows of a line with an order, which are distinct and at least one, or None."""
    words = line.split(" ")
    order = read_version(words[1:])
    return order if words[0] == "order" and order != () else None


def read_next(line):
    """Return the number of a line with the next device to be opened, or None."""
    words = line.split(" ")
    return read_number(words[1], MOST_DIGITS) if words[0] == "next" and len(words) == 2 else None


def orders_fit(version, orders):
    """Return whether these can be the stored orders of a list that has become this version."""
    if not all([is_subset(one, other) for one, other in zip(orders, orders[1:])]):
        return False
    return all([decode_token(orders, encode_state(orders, rows)) == rows for rows in prefix_sets(version)])


def read_device(line):
    """Return the numbers of a line with a device, its own and those of its token, or None."""
    words = line.split(" ")
    numbers = tuple([read_number(word, MOST_DIGITS) for word in words[1:]])
    return numbers if words[0] == "device" and len(numbers) > 0 and None not in numbers else None


def device_fits(device, orders, next_number, tokens):
    """Return whether the device can follow those that have these tokens."""
    if len(tokens) >= MOST_DEVICES or device[0] >= next_number:
        return False
    return all([other < device[0] for other in tokens]) and is_normal_token(orders, device[1:])
