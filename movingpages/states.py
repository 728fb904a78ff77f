"""Reachable sets, and the certificates that a set is reachable or not."""

from movingpages.integers import is_integer_within
from movingpages.rows import is_row_set


def prefix_lengths(history, rows):
    """Return for each version the largest number of first rows whose live rows are all in the row set."""
    return tuple([prefix_length(version, history[-1], rows) for version in history])


def prefix_length(version, live, rows):
    """Return at which place of the version the first live row stands that is not in the row set."""
    for place, row in enumerate(version):
        if row not in rows and row in live:
            return place
    return len(version)


def prefixes_within(history, rows):
    """Return for each version its longest prefix whose live rows are all in the row set.

    A version supports a row of the row set exactly if this prefix contains the row.
    """
    return [version[:length] for version, length in zip(history, prefix_lengths(history, rows))]


def is_reachable(history, rows):
    """Return whether any value is a reachable row set."""
    return is_row_set(history, rows) and find_supports(history, rows) is not None


def find_supports(history, rows):
    """Return the number of the first support of each row, or None if the row set is not reachable."""
    prefixes = prefixes_within(history, rows)
    numbers = [first_support(prefixes, row) for row in rows]
    if None in numbers:
        return None
    return tuple(numbers)


def first_support(prefixes, row):
    """Return the smallest number of a prefix that contains the row, or None."""
    for number, prefix in enumerate(prefixes):
        if row in prefix:
            return number
    return None


def shows_reachable(history, rows, certificate):
    """Return whether any value names a support for each row of the row set."""
    if not isinstance(certificate, tuple) or len(certificate) != len(rows):
        return False
    prefixes = prefixes_within(history, rows)
    return all([is_support(prefixes, row, number) for row, number in zip(rows, certificate)])


def is_support(prefixes, row, value):
    """Return whether any value is the number of a prefix that contains the row."""
    return is_integer_within(value, 0, len(prefixes) - 1) and row in prefixes[value]


def find_blockers(history, rows):
    """Return the first row without support and what blocks it, or None if the row set is reachable."""
    prefixes = prefixes_within(history, rows)
    for row in rows:
        if first_support(prefixes, row) is None:
            return (row, first_blockers(history, prefixes, row))
    return None


def first_blockers(history, prefixes, row):
    """Return the pairs of each version that contains the unsupported row and the row that blocks it first."""
    pairs = []
    for number, version in enumerate(history):
        if row in version:
            # The prefix ends before the unsupported row, so the row that ends it stands before that row.
            pairs.append((number, version[len(prefixes[number])]))
    return tuple(pairs)


def shows_unreachable(history, rows, certificate):
    """Return whether any value names a row of the row set and what blocks it in each version that contains it."""
    if not isinstance(certificate, tuple) or len(certificate) != 2:
        return False
    row, pairs = certificate
    if row not in rows or not isinstance(pairs, tuple):
        return False
    numbers = [number for number, version in enumerate(history) if row in version]
    if len(pairs) != len(numbers):
        return False
    return all([is_blocking(history, rows, row, number, pair) for number, pair in zip(numbers, pairs)])


def is_blocking(history, rows, row, number, value):
    """Return whether any value is the pair of this version number and a row that blocks the row there."""
    if not isinstance(value, tuple) or len(value) != 2 or not is_integer_within(value[0], number, number):
        return False
    version = history[number]
    before = version[:version.index(row)]
    return value[1] in [other for other in before if other in history[-1] and other not in rows]
