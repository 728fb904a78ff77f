"""Whether two histories of the same list have the same reachable sets."""

from movingpages.errors import DifferentLists
from movingpages.paths import path_sets
from movingpages.states import is_reachable


def same_reach(one, other):
    """Return whether both histories have the same reachable sets."""
    return reach_gap(one, other) is None


def reach_gap(one, other):
    """Return the number of a history and the first of its paths that is not reachable in the other one, or None."""
    if one[-1] != other[-1]:
        raise DifferentLists(other[-1])
    # Every reachable set is a union of paths, so paths that are all reachable are enough.
    for number, history, against in [(0, one, other), (1, other, one)]:
        for path in path_sets(history):
            if not is_reachable(against, path):
                return (number, path)
    return None
