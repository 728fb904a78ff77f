"""Antichains and chains of paths, and the width.

Chains that are as few as possible come from a largest matching: each path is
joined to at most one path that contains it, and no two paths to the same one.
Paths are numbered here as path_sets lists them.
"""

from movingpages.paths import path_sets
from movingpages.rows import in_canonical_order, is_subset, sets_grow


def width_of(history):
    """Return the largest number of paths none of which contains another one."""
    return len(find_chains(history))


def find_chains(history):
    """Return the fewest chains that contain every path once."""
    paths = path_sets(history)
    after, before = join_paths(containing_paths(paths))
    firsts = [number for number in range(len(paths)) if number not in before]
    return tuple([chain_from(paths, after, first) for first in firsts])


def find_antichain(history):
    """Return as many paths as there are chains, none of which contains another one."""
    paths = path_sets(history)
    containing = containing_paths(paths)
    after, before = join_paths(containing)
    lasts = [number for number in range(len(paths)) if number not in after]
    reached = search_from(containing, before, lasts)[0]
    # Koenig's theorem: these paths are one of each chain, and what contains one of them has been reached.
    chosen = [
        path for number, path in enumerate(paths)
        if number not in reached and (number not in after or after[number] in reached)
    ]
    return in_canonical_order(chosen)


def containing_paths(paths):
    """Return for each path the numbers of the paths that contain it and are not equal to it."""
    return [
        [number for number, other in enumerate(paths) if len(path) < len(other) and is_subset(path, other)]
        for path in paths
    ]


def join_paths(containing):
    """Join as many paths as possible, and return both directions: the next path of each, and the one before."""
    after = {}
    before = {}
    for start in range(len(containing)):
        reached, high = search_from(containing, before, [start])
        while high is not None:
            low = reached[high]
            before[high] = low
            # What was joined to the lower path is free now and gets the path from which it was reached.
            freed = after.get(low)
            after[low] = high
            high = freed
    return after, before


def search_from(containing, before, starts):
    """Go from paths to those that contain them, and from these back to the paths that are joined to them.

    Return from which path each containing one was reached, and the first of
    them that no path is joined to, or None. The search ends there.
    """
    reached = {}
    queue = list(starts)
    place = 0
    while place < len(queue):
        low = queue[place]
        place += 1
        for high in containing[low]:
            if high not in reached:
                reached[high] = low
                if high not in before:
                    return reached, high
                queue.append(before[high])
    return reached, None


def chain_from(paths, after, first):
    """Return the chain of joined paths that starts with the path of this number."""
    chain = []
    number = first
    while number is not None:
        chain.append(paths[number])
        number = after.get(number)
    return tuple(chain)


def shows_antichain(history, value):
    """Return whether any value is a tuple of paths in canonical order none of which contains another one."""
    paths = path_sets(history)
    if not is_tuple_of_paths(paths, value) or value != in_canonical_order(value):
        return False
    # In canonical order only an earlier path can be in a later one, or equal to it.
    return not any([is_subset(one, other) for place, other in enumerate(value) for one in value[:place]])


def shows_chains(history, value):
    """Return whether any value is a tuple of chains that contain every path once."""
    paths = path_sets(history)
    if not isinstance(value, tuple) or not all([is_chain(paths, chain) for chain in value]):
        return False
    shown = [path for chain in value for path in chain]
    return in_canonical_order(shown) == in_canonical_order(paths)


def is_chain(paths, value):
    """Return whether any value is a chain of some of these paths."""
    return is_tuple_of_paths(paths, value) and len(value) > 0 and sets_grow(value)


def is_tuple_of_paths(paths, value):
    """Return whether any value is a tuple of some of these paths."""
    return isinstance(value, tuple) and all([item in paths for item in value])
