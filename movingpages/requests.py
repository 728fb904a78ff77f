"""Requests of a device, and schedules of them."""

from movingpages.integers import is_integer_within
from movingpages.rows import live_rows_among

MOST_COUNT = 1000


def page_of(version, sent, count):
    """Return the first rows of the version that have not been sent, at most count of them."""
    unsent = [row for row in version if row not in sent]
    return tuple(unsent[:count])


def is_schedule(history, value):
    """Return whether any value is a schedule of this history."""
    if not isinstance(value, tuple):
        return False
    if not all([is_request(history, pair) for pair in value]):
        return False
    return all([one[0] <= other[0] for one, other in zip(value, value[1:])])


def is_request(history, value):
    """Return whether any value is a pair of a version number and a count."""
    if not isinstance(value, tuple) or len(value) != 2:
        return False
    return is_integer_within(value[0], 0, len(history) - 1) and is_integer_within(value[1], 0, MOST_COUNT)


def run_schedule(history, schedule):
    """Return the pages that a new device receives for these requests."""
    sent = ()
    pages = []
    for index, count in schedule:
        page = page_of(history[index], sent, count)
        sent = sent + page
        pages.append(page)
    return tuple(pages)


def sent_live(history, schedule):
    """Return the row set of the live rows that a new device is sent for these requests."""
    sent = [row for page in run_schedule(history, schedule) for row in page]
    return live_rows_among(history, sent)
