"""The command desk."""

import re
from random import Random

from movingpages.chains import width_of
from movingpages.desk import Desk
from movingpages.errors import (
    BadCount, BadIndex, BadLine, BadRows, BadText, DuplicateRow, MissingRow, NoDevice, PagesError, TooLong, TooMany,
)
from movingpages.reading import read_feed
from movingpages.writing import write_feed
from tests.samples import PagesTest, any_values, letters_rows
from tests.texts import judged_feed

TEXT = (
    "list d a b c\norder a b c\norder a b c d\norder d a b c\nnext 12\n"
    "device 9 1 1 0\ndevice 10 0 0 1\ndevice 11 2 2 3"
)

ROW, NUMBER = "([a-z]{1,8})", "(0|[1-9][0-9]{0,3})"

# Each command: its pattern, the method, and how the words become arguments.
COMMANDS = {
    "insert": (f"insert {ROW} {NUMBER}", "insert", lambda row, index: (row, int(index))),
    "remove": (f"remove {ROW}", "remove", lambda row: (row,)),
    "move": (f"move {ROW} {NUMBER}", "move", lambda row, index: (row, int(index))),
    "open": ("open", "open_device", lambda: ()),
    "close": (f"close {NUMBER}", "close_device", lambda device: (int(device),)),
    "page": (f"page {NUMBER} {NUMBER}", "page", lambda device, count: (int(device), int(count))),
    "merge": (f"merge {NUMBER} {NUMBER}", "merge", lambda one, other: (int(one), int(other))),
    "lose": (f"lose {NUMBER}((?: [a-z]{{1,8}})+)", "lose", lambda device, rows: (int(device), tuple(rows.split()))),
    "compact": ("compact", "compact", lambda: ()),
    "list": ("list", "current_version", lambda: ()),
    "orders": ("orders", "orders", lambda: ()),
    "devices": ("devices", "devices", lambda: ()),
    "state": (f"state {NUMBER}", "state_of", lambda device: (int(device),)),
    "token": (f"token {NUMBER}", "token_of", lambda device: (int(device),)),
}

GOOD = [
    "insert e 0", "insert e 4", "insert abcdefgh 2", "remove a", "remove d", "move a 0", "move c 3", "open", "close 9",
    "close 11", "page 9 0", "page 9 1", "page 10 1000", "page 11 2", "merge 9 10", "merge 10 9", "merge 11 11",
    "lose 9 a", "lose 11 a b", "lose 11 d", "compact", "list", "orders", "devices", "state 9", "state 11", "token 10",
    "width", "text",
]


def written(value):
    """Return a tuple of rows or numbers as the desk answers it."""
    return " ".join(map(str, value)) or "-"


def expected_answer(feed, line):
    """Do with the feed what the line says, and return the answer; None if the line is no command."""
    if line.__class__ is not str:
        return None
    if line == "width":
        return str(width_of(feed.orders() + (feed.current_version(),)))
    if line == "text":
        return write_feed(feed).replace("\n", " / ")
    for pattern, method, arguments in COMMANDS.values():
        found = re.fullmatch(pattern, line)
        if found:
            value = getattr(feed, method)(*arguments(*found.groups()))
            if method == "close_device":
                return "done"
            if method == "orders":
                return " | ".join(map(written, value)) or "-"
            return written(value) if value.__class__ is tuple else str(value)
    return None


def changed_commands(line):
    """Return the line with one change: words, numbers, rows, spaces and signs of every wrong kind."""
    words = line.split(" ")
    others = [
        "", "0", "9", "00", "09", "9999", "10000", "0009", "-1", "+9", "9.0", "1e1", "a", "abcdefgh", "abcdefghi", "A",
        "aB", "a1", "-", "~", "a,b", "open", "list", "width", "text", "lose", "rows", "row", "number",
    ]
    found = [line.upper(), line.capitalize(), line + " ", " " + line, line.replace(" ", "  "), line.replace(" ", "\t"),
             line + "\n", "\n" + line, line + "\t", line + "\n" + line, line + " / " + line, line + ";", line[:-1]]
    for place in range(len(words) + 1):
        found.append(" ".join(words[:place] + words[place + 1:]))
        found.append(" ".join(words[:place] + words[place:place + 1] * 2 + words[place + 1:]))
        for other in others:
            found.append(" ".join(words[:place] + [other] + words[place:]))
            found.append(" ".join(words[:place] + [other] + words[place + 1:]))
        for later in range(place + 1, len(words)):
            exchanged = list(words)
            exchanged[place], exchanged[later] = words[later], words[place]
            found.append(" ".join(exchanged))
    for place in range(len(line) + 1):
        found.append(line[:place] + line[place + 1:])
        found += [line[:place] + character + line[place:] for character in " a0A\t\n-"]
    return found


def outcome(function, *arguments, **named):
    """Return what the call returns, or what it raises."""
    try:
        return ("returned", function(*arguments, **named))
    except PagesError as raised:
        return (raised.__class__, vars(raised))


class DeskTest(PagesTest):
    def assert_said(self, desk, feed, line):
        """Say the line to the desk, do the same with the feed, and check the answer and the situation."""
        before = write_feed(feed)
        expected = outcome(expected_answer, feed, line)
        if expected == ("returned", None):
            self.assert_raises_with(BadLine, "line", line, desk.say, line)
        else:
            self.assertEqual(outcome(desk.say, line), expected, line)
        text = write_feed(feed)
        self.assertEqual(desk.say("text"), text.replace("\n", " / "))
        if expected[0] != "returned" or expected[1] is None:
            self.assertEqual(text, before)
        elif line.split(" ")[0] in ("list", "orders", "devices", "state", "token", "width", "text"):
            self.assertEqual(text, before)
        return expected[1] is not None

    def test_every_command(self):
        for text in (TEXT, "list -\nnext 0", "list a\norder a\nnext 10\ndevice 9 1", "list -\nnext 11\ndevice 10"):
            for line in GOOD:
                self.assertTrue(self.assert_said(Desk(text), read_feed(text), line))

    def test_every_changed_command(self):
        commands = others = 0
        for line in GOOD:
            for changed in changed_commands(line):
                if self.assert_said(Desk(TEXT), read_feed(TEXT), changed):
                    commands += 1
                else:
                    others += 1
        self.assertGreater(commands, 300)
        self.assertGreater(others, 3000)

    def test_drawn_lines(self):
        for seed in range(40):
            chance, desk, feed = Random(seed), Desk(TEXT), read_feed(TEXT)
            for _ in range(60):
                line = chance.choice(GOOD)
                line = re.sub(r"\b[a-e]\b", lambda found: chance.choice("abcdef"), line)
                line = re.sub(r"\b(9|10|11)\b", lambda found: str(chance.choice([9, 10, 11, 12, 13])), line)
                self.assert_said(desk, feed, line)

    def test_any_value_as_line(self):
        for value in any_values():
            desk, feed = Desk(TEXT), read_feed(TEXT)
            self.assert_raises_with(BadLine, "line", value, desk.say, value)
            self.assertEqual(desk.say("text"), TEXT.replace("\n", " / "))
        for value in [["open"], ("open",), {"open": 1}, b"open", None]:
            self.assert_raises_with(BadLine, "line", value, Desk().say, value)

    def test_lines_that_are_no_commands(self):
        wrong = [
            "", " ", "open 1", "open ", " open", "opens", "Open", "OPEN", "open\n", "open\t", "insert", "insert e",
            "insert 0 e", "insert e 0 0", "insert e 00", "insert e 01", "insert e -1", "insert e +1", "insert e 10000",
            "insert E 0", "insert abcdefghi 0", "insert  e 0", "insert e  0", "insert e\t0", "insert - 0", "remove",
            "remove a b", "remove -", "remove 1", "move a", "move a b", "move 0 a", "close", "close a", "close 9 10",
            "close 09", "page 9", "page 9 1 1", "page 9 a", "page 9 -1", "page 9 10000", "page 9 1.0", "merge 9",
            "merge 9 10 11", "merge a b", "lose", "lose 9", "lose 9 ", "lose 9 -", "lose a", "lose 9 A", "lose 9 a  b",
            "lose 9 a 1", "lose 9 a abcdefghi", "compact 1", "list a", "orders 1", "devices 1", "state", "state a",
            "state 9 9", "token", "token -", "width 1", "text 1", "list -", "next 0", "order a", "device 9", "done",
            "answer", "insert_row a 0", "say open", "__init__", "copy", "live", "state_of 9", "open_device",
        ]
        desk, feed = Desk(TEXT), read_feed(TEXT)
        for line in wrong:
            self.assertFalse(self.assert_said(desk, feed, line), line)
        self.assertEqual(desk.say("text"), TEXT.replace("\n", " / "))

    def test_numbers_of_four_digits_and_rows_of_eight_letters(self):
        desk = Desk("list a\norder a\nnext 9999\ndevice 9998 1")
        self.assertEqual([desk.say("state 9998"), desk.say("open"), desk.say("state 9999")], ["a", "9999", "-"])
        self.assertEqual([desk.say("open"), desk.say("devices")], ["10000", "9998 9999 10000"])
        self.assert_raises_with(BadLine, "line", "state 10000", desk.say, "state 10000")
        self.assert_raises_with(BadCount, "count", 9999, desk.say, "page 9998 9999")
        self.assert_raises_with(BadCount, "count", 1001, desk.say, "page 9998 1001")
        self.assert_raises_with(BadIndex, "index", 9999, desk.say, "insert b 9999")
        self.assertEqual(desk.say("page 9998 1000"), "-")
        self.assertEqual(desk.say("insert abcdefgh 1"), "a abcdefgh")
        self.assertEqual(desk.say("page 9998 1000"), "abcdefgh")

    def test_errors_of_the_methods(self):
        raised = [
            ("insert a 0", DuplicateRow, "row", "a"), ("insert e 5", BadIndex, "index", 5),
            ("insert a 99", DuplicateRow, "row", "a"), ("remove e", MissingRow, "row", "e"),
            ("move e 9", MissingRow, "row", "e"), ("move a 4", BadIndex, "index", 4),
            ("close 8", NoDevice, "device", 8), ("page 8 1", NoDevice, "device", 8),
            ("page 8 1001", NoDevice, "device", 8), ("page 9 1001", BadCount, "count", 1001),
            ("merge 8 7", NoDevice, "device", 8), ("merge 9 7", NoDevice, "device", 7),
            ("lose 8 a", NoDevice, "device", 8), ("lose 9 b", BadRows, "rows", ("b",)),
            ("lose 11 b a", BadRows, "rows", ("b", "a")), ("lose 11 a a", BadRows, "rows", ("a", "a")),
            ("lose 11 z", BadRows, "rows", ("z",)), ("state 12", NoDevice, "device", 12),
            ("token 0", NoDevice, "device", 0),
        ]
        desk = Desk(TEXT)
        for line, error, field, value in raised:
            self.assert_raises_with(error, field, value, desk.say, line)
            self.assertEqual(desk.say("text"), TEXT.replace("\n", " / "))

    def test_24_rows_and_40_devices(self):
        rows = " ".join(letters_rows(24))
        desk = Desk(f"list {rows}\norder {rows}\nnext 0")
        self.assert_raises_with(TooLong, "limit", 24, desk.say, "insert zz 0")
        for number in range(40):
            self.assertEqual(desk.say("open"), str(number))
        self.assert_raises_with(TooMany, "most", 40, desk.say, "open")
        self.assertEqual(desk.say("devices"), " ".join(map(str, range(40))))
        self.assertEqual(desk.say("page 39 24"), rows)

    def test_answers(self):
        desk = Desk(TEXT)
        said = [
            ("list", "d a b c"), ("orders", "a b c | a b c d | d a b c"), ("devices", "9 10 11"), ("state 9", "a"),
            ("state 10", "d"), ("token 11", "2 2 3"), ("width", "2"), ("page 9 0", "-"), ("page 9 2", "d b"),
            ("merge 9 10", "a b d"), ("lose 10 d", "d"), ("state 10", "a b"), ("close 11", "done"), ("open", "12"),
            ("state 12", "-"), ("token 12", "0 0 0"), ("move c 0", "c d a b"), ("insert e 4", "c d a b e"),
            ("remove d", "c a b e"), ("orders", "a b c | c a b | c a b e"), ("compact", "2"), ("lose 12 a", None),
        ]
        for line, answer in said:
            if answer is None:
                self.assert_raises_with(BadRows, "rows", ("a",), desk.say, line)
            else:
                self.assertEqual(desk.say(line), answer, line)

    def test_a_dash_where_there_is_nothing(self):
        desk = Desk("list -\nnext 1\ndevice 0")
        for line in ("list", "orders", "state 0", "token 0", "page 0 5", "merge 0 0"):
            self.assertEqual(desk.say(line), "-", line)
        self.assertEqual([desk.say("width"), desk.say("compact")], ["0", "0"])
        self.assertEqual(desk.say("text"), "list - / next 1 / device 0")
        self.assertEqual([desk.say("close 0"), desk.say("devices")], ["done", "-"])
        self.assertEqual([desk.say("insert a 0"), desk.say("remove a")], ["a", "-"])

    def test_width_changes_nothing(self):
        desk = Desk("list a b d c\norder a b c d\norder b a c d\norder a b d c\nnext 1\ndevice 0 2 2 3")
        before = desk.say("text")
        self.assertEqual([desk.say("width"), desk.say("width")], ["2", "2"])
        self.assertEqual(desk.say("text"), before)
        self.assertEqual([desk.say("compact"), desk.say("width")], ["2", "2"])
        self.assertEqual(len(desk.say("orders").split(" | ")), 2)
        self.assertEqual(desk.say("state 0"), "a b d")

    def test_texts(self):
        for text in (TEXT, "list -\nnext 0", "list b a\norder a b\nnext 0", "", "list a", "list a\norder a\nnext 0\n"):
            expected = judged_feed(text)
            if expected.__class__ is int:
                self.assert_raises_with(BadText, "line", expected, Desk, text)
                self.assert_raises_with(BadText, "line", expected, Desk, text=text)
            else:
                self.assertEqual(Desk(text).say("text"), text.replace("\n", " / "))
        for value in any_values():
            self.assert_raises_with(BadText, "line", 0, Desk, value)

    def test_no_text(self):
        desk = Desk()
        self.assertEqual([desk.say("text"), desk.say("open"), desk.say("list")], ["list - / next 0", "0", "-"])
        # Another desk has a feed of its own.
        self.assertEqual(Desk().say("text"), "list - / next 0")

    def test_by_name(self):
        desk = Desk(text=TEXT)
        self.assertEqual(desk.say(line="page 9 1"), "d")
        self.assert_raises_with(BadLine, "line", "page", desk.say, line="page")
        self.assertIn("say", vars(Desk))

    def test_rows_with_the_names_of_commands(self):
        desk = Desk()
        for row in ("open", "list", "width", "insert", "rows"):
            self.assertEqual(desk.say(f"insert {row} 0").split(" ")[0], row)
        self.assertEqual(desk.say("remove insert"), "rows width list open")
