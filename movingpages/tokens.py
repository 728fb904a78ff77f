"""Tokens: a set of rows that have been sent, as one integer for each order."""

from movingpages.errors import BadToken
from movingpages.integers import is_integer_within
from movingpages.requests import page_of
from movingpages.states import prefix_length


def encode_state(orders, rows):
    """Return for each order the length of its longest prefix whose rows are all in the set."""
    # All rows of an order count here, as if they were the live ones.
    return tuple([prefix_length(order, order, rows) for order in orders])


def decode_token(orders, token):
    """Return the set that the token represents."""
    if not is_token(orders, token):
        raise BadToken(token)
    return union_of([order[:many] for order, many in zip(orders, token)])


def is_token(orders, value):
    """Return whether any value is a token for these orders."""
    if not isinstance(value, tuple) or len(value) != len(orders):
        return False
    return all([is_integer_within(many, 0, len(order)) for order, many in zip(orders, value)])


def union_of(groups):
    """Return the set of the rows that are in at least one of these tuples."""
    return tuple(sorted({row for rows in groups for row in rows}))


def normalize_token(orders, token):
    """Return the normal token that represents the same set."""
    return encode_state(orders, decode_token(orders, token))


def is_normal_token(orders, value):
    """Return whether any value is a normal token for these orders."""
    return is_token(orders, value) and normalize_token(orders, value) == value


def merge_tokens(orders, one, other):
    """Return the normal token that represents the union of both sets."""
    rows = decode_token(orders, one)
    return encode_state(orders, union_of([rows, decode_token(orders, other)]))


def send_page(orders, version, token, count):
    """Return the page that follows the token at this version, and the token after it."""
    sent = decode_token(orders, token)
    page = page_of(version, sent, count)
    return (page, encode_state(orders, union_of([sent, page])))
