"""Edits of a version, and histories that grow by them."""

from movingpages.errors import BadEdit, BadIndex, BadRow, DuplicateRow, MissingRow, ReturnedRow, TooLong
from movingpages.integers import is_integer_within
from movingpages.rows import MOST_ROWS, MOST_VERSIONS, has_left, is_row

EDIT_LENGTHS = {"insert": 3, "remove": 2, "move": 3}


def insert_row(version, row, index):
    """Return the version with the row inserted at the index."""
    if not is_row(row):
        raise BadRow(row)
    if row in version:
        raise DuplicateRow(row)
    if not is_integer_within(index, 0, len(version)):
        raise BadIndex(index)
    if len(version) >= MOST_ROWS:
        raise TooLong(MOST_ROWS)
    return version[:index] + (row,) + version[index:]


def remove_row(version, row):
    """Return the version without the row."""
    if row not in version:
        raise MissingRow(row)
    return tuple([other for other in version if other != row])


def move_row(version, row, index):
    """Return the version with the row moved so that it is at the index."""
    others = remove_row(version, row)
    if not is_integer_within(index, 0, len(others)):
        raise BadIndex(index)
    return others[:index] + (row,) + others[index:]


def extend_history(history, edit):
    """Return the history with one more version, made from the last one by the edit."""
    if not is_edit(edit):
        raise BadEdit(edit)
    if len(history) >= MOST_VERSIONS:
        raise TooLong(MOST_VERSIONS)
    if edit[0] == "insert" and has_left(history, edit[1]):
        raise ReturnedRow(edit[1])
    return history + (edited_version(history[-1], edit),)


def is_edit(value):
    """Return whether any value has the form of an edit, whatever its row and its index are."""
    if not isinstance(value, tuple) or len(value) == 0:
        return False
    word = value[0]
    # Only a string is looked up: other values may have no hash.
    return isinstance(word, str) and EDIT_LENGTHS.get(word) == len(value)


def edited_version(version, edit):
    """Return the version after the edit."""
    if edit[0] == "insert":
        return insert_row(version, edit[1], edit[2])
    if edit[0] == "move":
        return move_row(version, edit[1], edit[2])
    return remove_row(version, edit[1])
