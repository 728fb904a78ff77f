"""Schemes: any way to represent sets of rows by tuples of integers, the larger integer at each place for the union."""

from movingpages.orders import first_extra, first_missing, prefix_sets
from movingpages.rows import is_row, is_subset


def is_scheme(value):
    """Return whether any value is a scheme."""
    return isinstance(value, tuple) and all([is_place(place) for place in value])


def is_place(value):
    """Return whether any value is a non-empty tuple of sets of rows, each a subset of the next one."""
    if not isinstance(value, tuple) or len(value) == 0 or not all([is_set_of_rows(rows) for rows in value]):
        return False
    return all([is_subset(one, other) for one, other in zip(value, value[1:])])


def is_set_of_rows(value):
    """Return whether any value is a tuple of rows, live or not, in ascending order without duplicates."""
    if not isinstance(value, tuple) or not all([is_row(row) for row in value]):
        return False
    return all([one < other for one, other in zip(value, value[1:])])


def scheme_of(orders):
    """Return the scheme whose places are the prefix sets of each order."""
    return tuple([prefix_sets(order) for order in orders])


def scheme_gap(history, scheme):
    """Return the first set that is not reachable, else a set that no token represents, or None."""
    shown = [rows for place in scheme for rows in place]
    extra = first_extra(history, shown)
    if extra is not None:
        return extra
    # No token represents the empty set if some place always adds rows.
    if any([len(place[0]) > 0 for place in scheme]):
        return ("missing", ())
    return first_missing(history, shown)
