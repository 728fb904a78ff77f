"""Beginnings of rows, and paths: those beginnings that contain no smaller one of the same row."""

from movingpages.errors import MissingRow
from movingpages.rows import in_canonical_order, is_subset, live_rows, live_rows_among


def beginning_of(history, index, row):
    """Return the row set of all live rows at or before the row in the version with this number."""
    version = history[index]
    if row not in version or row not in history[-1]:
        raise MissingRow(row)
    return live_rows_among(history, version[:version.index(row) + 1])


def paths_to(history, row):
    """Return the paths that are beginnings of the row, in canonical order."""
    if row not in history[-1]:
        raise MissingRow(row)
    numbers = [number for number, version in enumerate(history) if row in version]
    beginnings = {beginning_of(history, number, row): True for number in numbers}
    paths = []
    # In canonical order a beginning comes after all of its proper subsets.
    for beginning in in_canonical_order(list(beginnings)):
        if not any([is_subset(path, beginning) for path in paths]):
            paths.append(beginning)
    return tuple(paths)


def all_paths(history):
    """Return the pairs of each live row and each of its paths."""
    return tuple([(row, path) for row in live_rows(history) for path in paths_to(history, row)])


def path_sets(history):
    """Return the list of all paths, without the rows that they belong to."""
    return [path for row, path in all_paths(history)]


def is_path(history, value):
    """Return whether any value is a path of this history."""
    # A list is searched, not a dict: other values may have no hash.
    return value in path_sets(history)
