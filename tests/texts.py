"""What the document says of texts, written out anew with patterns, and ways to change a text."""

import re
from random import Random

from tests.histories import unions_of
from tests.servers import normal_token, union_within

ROW = "[a-z]{1,8}"
ROWS = f"(-|{ROW}(?: {ROW})*)"
NUMBER = "(?:0|[1-9][0-9]{0,5})"


def rows_in(words):
    return () if words == "-" else tuple(words.split(" "))


def judged_history(text):
    """Return the history that the text describes, or the number of the first wrong line."""
    if text.__class__ is not str:
        return 0
    history = []
    for number, line in enumerate(text.split("\n")):
        found = re.fullmatch(ROWS, line)
        if not found or number == 40:
            return number
        version = rows_in(found[1])
        if len(version) > 24 or len(set(version)) < len(version):
            return number
        gone = {row for earlier in history for row in earlier} - set(history[-1] if history else ())
        if gone & set(version):
            return number
        history.append(version)
    return tuple(history)


def judged_feed(text):
    """Return list, orders, next number and tokens that the text describes, or the number of the wrong line."""
    if text.__class__ is not str:
        return 0
    lines = text.split("\n")
    found = re.fullmatch(f"list {ROWS}", lines[0])
    if not found:
        return 0
    version = rows_in(found[1])
    if len(version) > 24 or len(set(version)) < len(version):
        return 0
    orders = []
    number = 1
    while number < len(lines) and lines[number].split(" ")[0] == "order":
        found = re.fullmatch(f"order {ROWS}", lines[number])
        order = rows_in(found[1]) if found else ()
        if not order or len(set(order)) < len(order) or not set(order) <= set(version) or order in orders:
            return number
        orders.append(order)
        number += 1
    if number == len(lines):
        return number
    found = re.fullmatch(f"next ({NUMBER})", lines[number])
    if not found or not orders_are_right(version, orders):
        return number
    return judged_devices(lines, number + 1, version, orders, int(found[1]))


def orders_are_right(version, orders):
    for place, order in enumerate(orders):
        if any(not set(order) <= set(later) for later in orders[place + 1:]):
            return False
    return all(union_within(orders, version[:many]) == set(version[:many]) for many in range(len(version) + 1))


def judged_devices(lines, number, version, orders, following):
    tokens = {}
    for place in range(number, len(lines)):
        found = re.fullmatch(f"device ({NUMBER})((?: {NUMBER})*)", lines[place])
        if not found or len(tokens) == 40:
            return place
        device, token = int(found[1]), tuple(int(word) for word in found[2].split())
        if device >= following or any(device <= other for other in tokens):
            return place
        if len(token) != len(orders) or any(many > len(order) for many, order in zip(token, orders)):
            return place
        rows = {row for many, order in zip(token, orders) for row in order[:many]}
        if token != normal_token(orders, rows):
            return place
        tokens[device] = token
    return version, tuple(orders), following, tokens


CHARACTERS = "ab z0129-A~ \n\t/|+."
WORDS = [
    "", "-", "a", "b", "zz", "0", "1", "2", "00", "01", "7", "999999", "1000000", "list", "order", "next", "device",
]


def changed_characters(text):
    """Return the text with one character removed, doubled, replaced or added, at any place."""
    found = []
    for place in range(len(text) + 1):
        found.append(text[:place] + text[place + 1:])
        for character in CHARACTERS:
            found.append(text[:place] + character + text[place:])
            found.append(text[:place] + character + text[place + 1:])
    return found


def changed_items(items, others):
    """Return the items with one of them removed, doubled, replaced, exchanged with another, or one added."""
    found = []
    for place in range(len(items) + 1):
        found.append(items[:place] + items[place + 1:])
        found.append(items[:place] + items[place:place + 1] * 2 + items[place + 1:])
        for other in others:
            found.append(items[:place] + [other] + items[place:])
            found.append(items[:place] + [other] + items[place + 1:])
        for later in range(place + 1, len(items)):
            exchanged = list(items)
            exchanged[place], exchanged[later] = items[later], items[place]
            found.append(exchanged)
    return found


def changed_lines(text):
    """Return the text with one line changed: removed, doubled, exchanged, or another one in its place or added."""
    others = ["", "-", "a", "list a", "list -", "order a", "order -", "next 0", "next 9", "device 0", "device 1 0"]
    return ["\n".join(lines) for lines in changed_items(text.split("\n"), others)]


def changed_words(text):
    """Return the text with one word of some line changed in the same ways."""
    lines = text.split("\n")
    found = []
    for place, line in enumerate(lines):
        for words in changed_items(line.split(" "), WORDS):
            found.append("\n".join(lines[:place] + [" ".join(words)] + lines[place + 1:]))
    return found


def changed_once(text):
    """Return the text with one change of every kind at any place."""
    added = [text + "\n", "\n" + text, text + " ", " " + text, text.upper(), text.replace(" ", "  "),
             text.replace("\n", "\n\n"), text.replace("\n", " \n"), text.replace("\n", "\r\n"), text + "\n" + text]
    return added + changed_characters(text) + changed_lines(text) + changed_words(text)


def changed_twice(text, seed, many):
    """Return so many texts with two changes."""
    chance = Random(seed)
    found = []
    for _ in range(many):
        changed = text
        for _ in range(2):
            change = chance.choice([one_changed_character, one_changed_word, one_changed_word, one_changed_line])
            changed = change(changed, chance)
        found.append(changed)
    return found


def one_changed_character(text, chance):
    place = chance.randrange(len(text) + 1)
    return text[:place] + chance.choice([*CHARACTERS, "", ""]) + text[place + chance.randrange(2):]


def one_changed_word(text, chance):
    lines = text.split("\n")
    place = chance.randrange(len(lines))
    words = lines[place].split(" ")
    at = chance.randrange(len(words))
    words[at:at + chance.randrange(2)] = chance.choice([[], [chance.choice(WORDS)], [chance.choice(words)]])
    lines[place] = " ".join(words)
    return "\n".join(lines)


def one_changed_line(text, chance):
    lines = text.split("\n")
    at = chance.randrange(len(lines))
    lines[at:at + chance.randrange(2)] = chance.choice([[], [chance.choice(lines)]])
    return "\n".join(lines)


def reachable_feeds_text(version, orders):
    """Return the text of a feed with a device for each of the first reachable sets."""
    sets = unions_of(orders)[:40]
    lines = ["list " + (" ".join(version) or "-")] + ["order " + " ".join(order) for order in orders]
    lines.append(f"next {len(sets) * 3}")
    for number, rows in enumerate(sets):
        lines.append(" ".join(map(str, ["device", number * 3, *normal_token(orders, rows)])))
    return "\n".join(lines)
