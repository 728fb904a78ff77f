"""The errors of the package, one class for each kind of failure.

Each has the value that it is about as its only field. The fields keep the
value itself and no text made from it, because not every value has a text:
Python refuses to write out integers of thousands of digits.
"""


class PagesError(ValueError):
    """The base of all errors of the package."""


class BadRow(PagesError):
    """The value is not a row."""

    def __init__(self, row):
        self.row = row


class DuplicateRow(PagesError):
    """The row is in the version already."""

    def __init__(self, row):
        self.row = row


class MissingRow(PagesError):
    """The row is not where it has to be."""

    def __init__(self, row):
        self.row = row


class ReturnedRow(PagesError):
    """The row has left the list and may not come back."""

    def __init__(self, row):
        self.row = row


class BadIndex(PagesError):
    """The value is not an index at which a row can stand."""

    def __init__(self, index):
        self.index = index


class TooLong(PagesError):
    """The version or the history has as many items as it may have."""

    def __init__(self, limit):
        self.limit = limit


class BadEdit(PagesError):
    """The value is not an edit."""

    def __init__(self, edit):
        self.edit = edit


class Unreachable(PagesError):
    """No device can have been sent exactly these rows."""

    def __init__(self, rows):
        self.rows = rows


class TooMany(PagesError):
    """There are more than the caller or the feed allows."""

    def __init__(self, most):
        self.most = most


class BadChain(PagesError):
    """The value is not a chain of reachable row sets."""

    def __init__(self, chain):
        self.chain = chain


class BadToken(PagesError):
    """The value is not a token for the orders."""

    def __init__(self, token):
        self.token = token


class DifferentLists(PagesError):
    """The histories do not end in the same version."""

    def __init__(self, version):
        self.version = version


class BadVersion(PagesError):
    """The value is not a version."""

    def __init__(self, version):
        self.version = version


class NoDevice(PagesError):
    """The value is not the number of an open device."""

    def __init__(self, device):
        self.device = device


class BadCount(PagesError):
    """The value is not a number of rows that can be requested."""

    def __init__(self, count):
        self.count = count


class BadRows(PagesError):
    """The value is not a row set that the device has been sent."""

    def __init__(self, rows):
        self.rows = rows


class BadText(PagesError):
    """The text is wrong at the line with this number."""

    def __init__(self, line):
        self.line = line


class BadLine(PagesError):
    """The value is not a line that the desk understands."""

    def __init__(self, line):
        self.line = line
