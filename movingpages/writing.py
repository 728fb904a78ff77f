"""Texts of histories and feeds."""


def write_words(values):
    """Return the rows or numbers separated by one space, or a dash if there are none."""
    if len(values) == 0:
        return "-"
    return " ".join([str(value) for value in values])


def write_history(history):
    """Return a text with one line for each version."""
    return "\n".join([write_words(version) for version in history])


def write_feed(feed):
    """Return a text that has the list, the stored orders, the next number and the open devices of the feed."""
    lines = [("list", feed.current_version())]
    lines = lines + [("order", order) for order in feed.orders()]
    lines = lines + [("next", (feed.next_number,))]
    lines = lines + [("device", (device,) + feed.token_of(device)) for device in feed.devices()]
    return "\n".join([f"{word} {write_words(values)}" for word, values in lines])
