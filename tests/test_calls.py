"""What holds for all functions: arguments by name, unchanged arguments, the same result again."""

from copy import deepcopy

from movingpages.chains import find_antichain, find_chains, shows_antichain, shows_chains, width_of
from movingpages.compare import reach_gap, same_reach
from movingpages.edits import extend_history, insert_row, move_row, remove_row
from movingpages.errors import PagesError
from movingpages.orders import order_gap, order_through, smallest_orders
from movingpages.paths import all_paths, beginning_of, is_path, paths_to
from movingpages.reach import all_reachable, greatest_reachable, last_rows, next_rows, schedule_for
from movingpages.reading import read_feed, read_history
from movingpages.requests import is_schedule, page_of, run_schedule, sent_live
from movingpages.rows import is_history, is_row, is_row_set, is_version, live_rows
from movingpages.schemes import is_scheme, scheme_gap, scheme_of
from movingpages.states import (
    find_blockers, find_supports, is_reachable, prefix_lengths, shows_reachable, shows_unreachable,
)
from movingpages.tokens import decode_token, encode_state, merge_tokens, normalize_token, send_page
from movingpages.writing import write_feed, write_history
from tests.histories import DOCUMENT, EDGES, row_sets_of
from tests.samples import PagesTest, any_values, nested

HISTORY = (("a", "b", "c"), ("c", "b"))
VERSION = ("c", "b", "d")
SCHEDULE = ((0, 2), (1, 1), (1, 1000))
ORDERS = (("a", "b", "c", "d"), ("b", "a", "d", "c"))


def calls():
    """Return pairs of a function and new arguments by name, in the order of its parameters."""
    some = [
        (live_rows, {"history": HISTORY}),
        (page_of, {"version": VERSION, "sent": ("d", "x"), "count": 1}),
        (run_schedule, {"history": HISTORY, "schedule": SCHEDULE}),
        (sent_live, {"history": HISTORY, "schedule": SCHEDULE}),
        (is_history, {"value": HISTORY}),
        (is_schedule, {"history": HISTORY, "value": SCHEDULE}),
        (insert_row, {"version": VERSION, "row": "a", "index": 1}),
        (remove_row, {"version": VERSION, "row": "b"}),
        (move_row, {"version": VERSION, "row": "b", "index": 2}),
        (extend_history, {"history": HISTORY, "edit": ("insert", "d", 0)}),
        (extend_history, {"history": HISTORY, "edit": ("insert", "a", 0)}),
        (extend_history, {"history": HISTORY, "edit": ("remove", "b")}),
        (extend_history, {"history": HISTORY, "edit": ("move", "b", 0)}),
    ]
    for value in any_values():
        some += [
            (is_row, {"value": value}),
            (is_version, {"value": value}),
            (is_history, {"value": value}),
            (is_row_set, {"history": HISTORY, "value": value}),
            (is_schedule, {"history": HISTORY, "value": value}),
            (insert_row, {"version": VERSION, "row": value, "index": value}),
            (insert_row, {"version": VERSION, "row": "a", "index": value}),
            (remove_row, {"version": VERSION, "row": value}),
            (move_row, {"version": VERSION, "row": value, "index": value}),
            (move_row, {"version": VERSION, "row": "b", "index": value}),
            (extend_history, {"history": HISTORY, "edit": value}),
            (extend_history, {"history": HISTORY, "edit": ("insert", value, value)}),
            (extend_history, {"history": HISTORY, "edit": ("remove", value)}),
            (extend_history, {"history": HISTORY, "edit": ("move", "b", value)}),
            (is_reachable, {"history": HISTORY, "rows": value}),
            (shows_reachable, {"history": HISTORY, "rows": ("b", "c"), "certificate": value}),
            (shows_reachable, {"history": HISTORY, "rows": ("b", "c"), "certificate": (value, 1)}),
            (shows_unreachable, {"history": HISTORY, "rows": ("b",), "certificate": value}),
            (shows_unreachable, {"history": HISTORY, "rows": ("b",), "certificate": ("b", value)}),
            (beginning_of, {"history": HISTORY, "index": 1, "row": value}),
            (paths_to, {"history": HISTORY, "row": value}),
            (is_path, {"history": HISTORY, "value": value}),
            (shows_antichain, {"history": HISTORY, "value": value}),
            (shows_antichain, {"history": HISTORY, "value": (value, ("b",))}),
            (shows_chains, {"history": HISTORY, "value": value}),
            (shows_chains, {"history": HISTORY, "value": ((value, ("b",)), (("c",),))}),
            (order_through, {"history": HISTORY, "chain": value}),
            (order_through, {"history": HISTORY, "chain": (value, ("b", "c"))}),
            (is_scheme, {"value": value}),
            (is_scheme, {"value": (((), value),)}),
            (read_history, {"text": value}),
            (read_feed, {"text": value}),
        ]
        some += calls_of_token(value)
        some += calls_of_token((value, 1))
    for token in [(0, 0), (1, 3), (2, 3), (4, 0), (0, 5)]:
        some += calls_of_token(token)
    for text in ["list -\nnext 0", "list b a\norder a b\norder b a\nnext 5\ndevice 2 1 0"]:
        some += [(read_feed, {"text": text}), (write_feed, {"feed": read_feed(text)})]
    for history in [HISTORY, DOCUMENT, *EDGES.values()]:
        some += calls_of_history(history)
    return some


def calls_of_token(token):
    """Return calls of the functions that take a token, for any value as the token."""
    return [
        (decode_token, {"orders": ORDERS, "token": token}),
        (normalize_token, {"orders": ORDERS, "token": token}),
        (merge_tokens, {"orders": ORDERS, "one": token, "other": (0, 1)}),
        (merge_tokens, {"orders": ORDERS, "one": (1, 0), "other": token}),
        (send_page, {"orders": ORDERS, "version": ("b", "a", "d", "c"), "token": token, "count": 2}),
    ]


def calls_of_history(history):
    """Return calls of the functions that take a history, for all of its row sets."""
    some = [
        (all_reachable, {"history": history}),
        (all_reachable, {"history": history, "most": 3}),
        (all_reachable, {"history": history, "most": 2001}),
        (all_paths, {"history": history}),
        (width_of, {"history": history}),
        (find_antichain, {"history": history}),
        (find_chains, {"history": history}),
        (shows_antichain, {"history": history, "value": find_antichain(history)}),
        (shows_chains, {"history": history, "value": find_chains(history)}),
        (is_path, {"history": history, "value": ("a", "b")}),
        (write_history, {"history": history}),
        (read_history, {"text": write_history(history)}),
        (smallest_orders, {"history": history}),
        (order_gap, {"history": history, "orders": smallest_orders(history)}),
        (order_gap, {"history": history, "orders": (history[-1], tuple(reversed(history[-1])))}),
        (scheme_of, {"orders": history}),
        (scheme_gap, {"history": history, "scheme": scheme_of(history)}),
        (scheme_gap, {"history": history, "scheme": (((), ("a",)), (("b",), ("a", "b")))}),
    ]
    some += [(order_through, {"history": history, "chain": chain}) for chain in find_chains(history)]
    for function in (same_reach, reach_gap):
        some.append((function, {"one": history, "other": history[-1:]}))
        some.append((function, {"one": history[-1:], "other": history}))
        some.append((function, {"one": history, "other": DOCUMENT}))
    for row in history[-1]:
        some.append((beginning_of, {"history": history, "index": len(history) - 1, "row": row}))
        some.append((beginning_of, {"history": history, "index": 0, "row": row}))
        some.append((paths_to, {"history": history, "row": row}))
    takers = [
        prefix_lengths, is_reachable, find_supports, find_blockers, greatest_reachable, next_rows, last_rows,
        schedule_for,
    ]
    for rows in row_sets_of(history):
        some.append((encode_state, {"orders": history, "rows": rows}))
        some += [(function, {"history": history, "rows": rows}) for function in takers]
        for find, shows in [(find_supports, shows_reachable), (find_blockers, shows_unreachable)]:
            some.append((shows, {"history": history, "rows": rows, "certificate": find(history, rows)}))
    return some


def by_position(named):
    """Return the arguments that are passed by position, and those that are passed by keyword alone."""
    positional = [value for name, value in named.items() if name != "most"]
    return positional, {name: value for name, value in named.items() if name == "most"}


def outcome(function, *arguments, **named):
    """Return what the call returns, or what it raises."""
    try:
        return ("returned", function(*arguments, **named))
    except PagesError as raised:
        return (raised.__class__.__name__, vars(raised))


class CallsTest(PagesTest):
    def test_by_position_and_by_name(self):
        for function, named in calls():
            positional, keywords = by_position(named)
            expected = outcome(function, *positional, **keywords)
            self.assertEqual(outcome(function, **named), expected)
            backwards = dict(reversed(list(named.items())))
            self.assertEqual(outcome(function, **backwards), expected)

    def test_arguments_are_unchanged(self):
        for function, named in calls():
            before = deepcopy(named)
            outcome(function, **named)
            self.assertEqual(named, before)

    def test_the_same_call_again(self):
        for function, named in calls():
            first = deepcopy(outcome(function, **named))
            for _ in range(3):
                self.assertEqual(outcome(function, **deepcopy(named)), first)

    def test_an_error_carries_the_very_value(self):
        row = nested("mixed", 30)
        for function, arguments in [(insert_row, (VERSION, row, 0)), (remove_row, (VERSION, row))]:
            self.assertIs(outcome(function, *arguments)[1]["row"], row)
        for function, arguments in [(paths_to, (HISTORY, row)), (beginning_of, (HISTORY, 0, row))]:
            self.assertIs(outcome(function, *arguments)[1]["row"], row)
        for function in (next_rows, last_rows, schedule_for):
            rows = tuple(["b"])
            self.assertIs(outcome(function, (("c", "b"),), rows)[1]["rows"], rows)
        self.assertIs(outcome(order_through, HISTORY, row)[1]["chain"], row)
        self.assertIs(outcome(decode_token, ORDERS, row)[1]["token"], row)
        edit = ("insert", row)
        self.assertIs(outcome(extend_history, HISTORY, edit)[1]["edit"], edit)
