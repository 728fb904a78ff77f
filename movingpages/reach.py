"""Reachable sets near a row set, and all of them."""

from movingpages.errors import TooMany, Unreachable
from movingpages.requests import page_of
from movingpages.rows import in_canonical_order
from movingpages.states import first_support, is_reachable, prefix_lengths, prefixes_within


def greatest_reachable(history, rows):
    """Return the greatest reachable subset of the row set."""
    prefixes = prefixes_within(history, rows)
    return tuple([row for row in rows if first_support(prefixes, row) is not None])


def next_rows(history, rows):
    """Return the row set of the live rows that can be added to the reachable set."""
    require_reachable(history, rows)
    return rows_that_follow(history, rows)


def last_rows(history, rows):
    """Return the row set of the rows that can be removed from the reachable set."""
    require_reachable(history, rows)
    return tuple([row for row in rows if is_reachable(history, rows_without(rows, row))])


def require_reachable(history, rows):
    """Raise an error if the row set is not reachable."""
    if not is_reachable(history, rows):
        raise Unreachable(rows)


def rows_that_follow(history, rows):
    """Return the row set of the first live row of each version that is not in the reachable set."""
    lengths = prefix_lengths(history, rows)
    firsts = [version[length] for version, length in zip(history, lengths) if length < len(version)]
    return tuple(sorted(set(firsts)))


def rows_without(rows, row):
    """Return the row set without the row."""
    return tuple([other for other in rows if other != row])


def schedule_for(history, rows):
    """Return a schedule that sends exactly the live rows of the reachable set."""
    require_reachable(history, rows)
    sent = ()
    schedule = []
    for number, prefix in enumerate(prefixes_within(history, rows)):
        page = page_of(prefix, sent, len(prefix))
        sent = sent + page
        schedule.append((number, len(page)))
    return tuple(schedule)


def all_reachable(history, *, most=2000):
    """Return all reachable sets in canonical order."""
    found = [()]
    known = {(): True}
    place = 0
    # Every reachable set arises from the empty one by adding one row at a time.
    while place < len(found) and len(found) <= most:
        rows = found[place]
        place += 1
        for row in rows_that_follow(history, rows):
            larger = tuple(sorted(rows + (row,)))
            if larger not in known:
                known[larger] = True
                found.append(larger)
    if len(found) > most:
        raise TooMany(most)
    return in_canonical_order(found)
