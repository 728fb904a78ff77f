"""Rows, versions and histories."""

MOST_LETTERS = 8
MOST_ROWS = 24
MOST_VERSIONS = 40


def is_row(value):
    """Return whether any value is a row."""
    if not isinstance(value, str) or not 1 <= len(value) <= MOST_LETTERS:
        return False
    return all(["a" <= letter <= "z" for letter in value])


def is_version(value):
    """Return whether any value is a version."""
    if not isinstance(value, tuple) or len(value) > MOST_ROWS:
        return False
    # Only rows go into the set: other values may have no hash.
    return all([is_row(row) for row in value]) and len(set(value)) == len(value)


def is_history(value):
    """Return whether any value is a history."""
    if not isinstance(value, tuple) or not 1 <= len(value) <= MOST_VERSIONS:
        return False
    return all([is_version(version) for version in value]) and not some_row_returns(value)


def some_row_returns(versions):
    """Return whether a row comes back in some version after it has left."""
    for number in range(1, len(versions)):
        earlier = versions[:number]
        if any([has_left(earlier, row) for row in versions[number]]):
            return True
    return False


def has_left(versions, row):
    """Return whether any value is a row of an earlier version and not of the last one."""
    return row not in versions[-1] and any([row in version for version in versions])


def live_rows(history):
    """Return the row set of all live rows."""
    return tuple(sorted(history[-1]))


def is_row_set(history, value):
    """Return whether any value is a row set of this history."""
    return isinstance(value, tuple) and value == live_rows_among(history, value)


def live_rows_among(history, rows):
    """Return the row set of the live rows that are among these values."""
    return tuple([row for row in live_rows(history) if row in rows])


def is_subset(one, other):
    """Return whether every row of one row set is in the other one."""
    return len(set(one) - set(other)) == 0


def sets_grow(row_sets):
    """Return whether each of these row sets is a proper subset of the next one."""
    return all([one != other and is_subset(one, other) for one, other in zip(row_sets, row_sets[1:])])


def in_canonical_order(row_sets):
    """Return the tuple of these row sets, sorted by their number of rows, then as tuples."""
    return tuple(sorted(row_sets, key=canonical_place))


def canonical_place(rows):
    """Return what the canonical order compares."""
    return (len(rows), rows)
