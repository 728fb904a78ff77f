"""What counts as an integer."""


def is_integer_within(value, low, high):
    """Return whether any value is an integer from low to high."""
    # Python counts True and False as integers; the document does not.
    if isinstance(value, bool) or not isinstance(value, int):
        return False
    return low <= value <= high
