"""Orders: the fewest whose unions of prefix sets are exactly the reachable sets."""

from movingpages.chains import find_chains
from movingpages.errors import BadChain
from movingpages.paths import path_sets
from movingpages.reach import rows_that_follow
from movingpages.rows import live_rows, sets_grow
from movingpages.states import is_reachable


def order_through(history, chain):
    """Return an order of all live rows whose prefix sets are reachable and include every set of the chain."""
    if not is_reachable_chain(history, chain):
        raise BadChain(chain)
    order = ()
    for goal in chain + (live_rows(history),):
        while len(order) < len(goal):
            order = order + (row_towards(history, order, goal),)
    return order


def is_reachable_chain(history, value):
    """Return whether any value is a tuple of reachable row sets, each a proper subset of the next one."""
    if not isinstance(value, tuple) or not all([is_reachable(history, rows) for rows in value]):
        return False
    return sets_grow(value)


def row_towards(history, order, goal):
    """Return the first row of the reachable goal that can follow the order, whose rows are a part of the goal."""
    # There is one: the goal is a union of beginnings, and a beginning that is not in the order has a first such row.
    following = rows_that_follow(history, tuple(sorted(order)))
    return [row for row in following if row in goal][0]


def smallest_orders(history):
    """Return as few orders as possible whose unions of prefix sets are exactly the reachable sets."""
    return tuple([order_through(history, chain) for chain in find_chains(history)])


def order_gap(history, orders):
    """Return the first prefix set that is not reachable, else the first path that is no prefix set, or None."""
    shown = [rows for order in orders for rows in prefix_sets(order)]
    extra = first_extra(history, shown)
    if extra is not None:
        return extra
    return first_missing(history, shown)


def prefix_sets(order):
    """Return the sets of the first 0, 1, 2, ... rows of the order."""
    return tuple([tuple(sorted(order[:many])) for many in range(len(order) + 1)])


def first_extra(history, row_sets):
    """Return the word and the first of these sets that is not reachable, or None."""
    for rows in row_sets:
        if not is_reachable(history, rows):
            return ("extra", rows)
    return None


def first_missing(history, row_sets):
    """Return the word and the first path that is not among these sets, or None.

    A path is no union of other reachable sets, so it has to be one of the sets itself.
    """
    shown = {rows: True for rows in row_sets}
    for path in path_sets(history):
        if path not in shown:
            return ("missing", path)
    return None
